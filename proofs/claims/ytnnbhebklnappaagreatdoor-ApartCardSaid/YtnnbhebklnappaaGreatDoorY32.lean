/-
  The image of the policy that rejects: Bytes, Whole, act, applies, rules, factsOf, Image, Compile, Load.
  Compile: the operators' numbers; facts in memory; factAt, meantBy, numberOf.
  Compile: factAt, meantBy, numberOf, the facts of single tokens and of operators.
-/
import Derived.Test.YtnnbhebklnappaaGreatDoorY28
import Derived.Test.YtnnbhebklnappaaGreatDoorY31
import Derived.Deep.RegionWith
import Derived.Test.YtnnbhebklnappaaGreatDoorY13
import Derived.Test.YtnnbhebklnappaaGreatDoorY23
set_option linter.unusedVariables false
set_option linter.unusedSimpArgs false
namespace Go.Proofs.YtnnbhebklnappaaGreatDoor
open Go.RowKit

/-- The table of how many bytes stand behind an operation lies in memory as the text lays it. -/
structure GlobB (w : World) : Prop where
  bytes : ∀ c, c < 18 → w.cell? ⟨0, c, none⟩ = some (.int .i64 (behindN c))
  size : 0 < w.heap.size
theorem GlobB.below {w w' : World} (h : GlobB w) (hb : Below w.heap.size w w') : GlobB w' :=
  ⟨fun c hc => (hb.cell (p := ⟨0, c, none⟩) h.size).trans (h.bytes c hc), Nat.lt_of_lt_of_le h.size hb.size⟩
theorem bsN_len (l : List Nat) : (bsN l).size = l.length := by simp [bsN, ByteArray.size]
set_option maxHeartbeats 1000000 in
set_option maxRecDepth 100000 in
theorem Bytes_bare (k : Nat) (hk : k < 18) (hb : behindN k = 0) (w : World) (hg : GlobB w) :
    Calls Tryz.prog 87 #[.int .i64 k, .int .i64 0] w fun e w' => e = .returned (.string (bsN [k])) ∧ Below w.heap.size w w' := by
  have hcv := conv_bytes (w.alloc (Obj.cells #[Value.int .u8 k] 5)) w.heap.size [k] 5 (Blk.new w _ _)
  simp only [List.length_cons, List.length_nil, Nat.zero_add] at hcv
  have hc0 := ((box3 w (Obj.cells #[Value.int .u8 k] 5)).cell (p := ⟨0, k, none⟩) hg.size).trans (hg.bytes k hk)
  rw [hb] at hc0
  have hk8 : k < 256 := by omega
  go_enter Tryz.func87, Tryz.ntmps87
  go_wp2
  go_loop [5, 7] (fun vr vi => vr = .slice (some ⟨w.heap.size, 0, none⟩) 1 1 ∧ vi = .int .i64 0) (fun _ _ => 0)
  case atStart => exact ⟨rfl, rfl⟩
  case round =>
    obtain ⟨rfl, rfl⟩ := hrel
    go_wp2
    go_ret
    exact ⟨rfl, box3 _ _⟩
set_option maxHeartbeats 1000000 in
set_option maxRecDepth 100000 in
theorem Whole_zero (k : Nat) (w : World) :
    Calls Tryz.prog 61 #[.int .i64 0, .string (bsN [k])] w fun e w' => e = .returned (.string (bsN [83, 76, 0, k])) ∧ Below w.heap.size w w' := by
  have hcv := conv_bytes (w.alloc (Obj.cells #[Value.int .u8 83, Value.int .u8 76, Value.int .u8 0] 5)) w.heap.size [83, 76, 0] 5 (Blk.new w _ _)
  simp only [List.length_cons, List.length_nil, Nat.zero_add, Nat.reduceAdd] at hcv
  have z0 : (bsN [83, 76, 0]).size = 3 := bsN_len _
  have z1 : (bsN [k]).size = 1 := bsN_len _
  have HE : Hid (bsN [83, 76, 0] ++ bsN [k] = bsN [83, 76, 0, k]) := by rw [Hid, bsN_append]; rfl
  go_enter Tryz.func61, Tryz.ntmps61
  have hbits : bits BinOp.and IntKind.i64 0 255 = 0 := by decide
  go_wp2
  go_ret
  exact ⟨by rw [← HE.out]; rfl, box3 _ _⟩
/-- A rule that rejects, whatever stands. -/
def rejR (a b c d e f : Int) : Value := .agg #[.bool false, .int .i64 a, .int .i64 b, .int .i64 c, .bool false, .int .i64 d, .int .i64 e, .int .i64 f]
set_option maxHeartbeats 1000000 in
theorem act_rej (v : Value) (a b c d e f : Int) (w : World) (hg : GlobB w) :
    Calls Tryz.prog 85 #[v, rejR a b c d e f] w fun e w' => e = .returned (.string (bsN [17])) ∧ Below w.heap.size w w' := by
  have HG := Hid.mk2 (hg.below (box3 w (.cells #[.bool false, .int .i64 a, .int .i64 b, .int .i64 c, .bool false, .int .i64 d, .int .i64 e, .int .i64 f] 165)))
  clear hg
  unfold rejR
  go_enter Tryz.func85, Tryz.ntmps85
  go_wp2_with (go_at_call 87; refine (Bytes_bare 17 (by omega) rfl _ HG.out).mono ?_; rintro e w1 ⟨rfl, hb1⟩)
  go_ret
  exact ⟨rfl, (box3 w _).trans (hb1.mono (by simp))⟩
set_option maxHeartbeats 1000000 in
theorem applies_rej (v : Value) (a b c d e f : Int) (w : World) :
    Calls Tryz.prog 84 #[v, rejR a b c d e f] w fun e w' => e = .returned (.int .i64 2) ∧ Below w.heap.size w w' := by
  unfold rejR
  go_enter Tryz.func84, Tryz.ntmps84
  go_wp2
  go_ret
  exact ⟨rfl, box3 w _⟩
set_option maxHeartbeats 2000000 in
set_option maxRecDepth 100000 in
theorem rules_rej (cb : Nat) (nv lv fv : Value) (h : Int) (g o rc : Nat) (a b c d e f : Int) (w : World) (hg : GlobB w) (hc : Blk w cb #[nv, lv, .slice (some ⟨g, o, none⟩) 1 rc, fv, .int .i64 h] 118) (hlt : g < w.heap.size) (h1 : 1 ≤ rc)
    (hr : ∀ j u, [Value.bool false, .int .i64 a, .int .i64 b, .int .i64 c, .bool false, .int .i64 d, .int .i64 e, .int .i64 f][j]? = some u → w.cell? ⟨g, o + j, none⟩ = some u) :
    Calls Tryz.prog 60 #[.pointer (some ⟨cb, 0, none⟩)] w fun e w' => e = .returned (.string (bsN [17])) ∧ Below w.heap.size w w' := by
  have HG := Hid.mk2 hg
  have HC := Hid.mk2 hc
  have k2 := hc.cell 2
  have r0 := hr 0 _ rfl
  have r1 := hr 1 _ rfl
  have r2 := hr 2 _ rfl
  have r3 := hr 3 _ rfl
  have r4 := hr 4 _ rfl
  have r5 := hr 5 _ rfl
  have r6 := hr 6 _ rfl
  have r7 := hr 7 _ rfl
  rw [Nat.add_zero] at r0
  have HB := Hid.mk2 (Blk.new w #[.bool false, .int .i64 a, .int .i64 b, .int .i64 c, .bool false, .int .i64 d, .int .i64 e, .int .i64 f] 165)
  have HE : Hid ({ data := #[] } ++ bsN [17] = bsN [17]) := by simp [Hid, bsN]; rfl
  have z1 : (bsN [17]).size = 1 := bsN_len _
  clear hr hg hc
  go_enter Tryz.func60, Tryz.ntmps60
  go_wp2
  go_loop [3, 4] (fun vc vi => vc = .string { data := #[] } ∧ vi = .int .i64 0) (fun _ _ => 0)
  case atStart => exact ⟨rfl, rfl⟩
  case round =>
    obtain ⟨rfl, rfl⟩ := hrel
    go_wp2_with (first
      | (go_at_call 84; refine (applies_rej _ a b c d e f _).mono ?_; rintro e w1 ⟨rfl, hb1⟩; have HB1 := Hid.mk2 (HB.out.below hb1 HB.out.lt); have b0 := HB1.out.cell 0; have b1 := HB1.out.cell 1; have b2 := HB1.out.cell 2; have b3 := HB1.out.cell 3; have b4 := HB1.out.cell 4; have b5 := HB1.out.cell 5; have b6 := HB1.out.cell 6; have b7 := HB1.out.cell 7)
      | (go_at_call 85; refine (act_rej _ a b c d e f _ ((HG.out.below (box3 w _)).below hb1)).mono ?_; rintro e w2 ⟨rfl, hb2⟩))
    go_ret
    exact ⟨by rw [← HE.out]; rfl, ((box3 w _).trans (hb1.mono (by simp))).trans (hb2.mono (by have := hb1.size; simp at this; omega))⟩
theorem Tryz.infoFact : (Tryz.prog.info? 158).map (fun i => (i.zero, i.size, i.bytes)) = some (some (.agg #[.bool false, .int .i64 0]), 2, 16) := by kernel_rfl
set_option maxHeartbeats 2000000 in
set_option maxRecDepth 100000 in
theorem factsOf_none (na : Option Addr) (nc : Nat) (lv rv : Value) (w : World) :
    Calls Tryz.prog 59 #[.agg #[.slice na 0 nc, lv, rv]] w fun e w' => Below w.heap.size w w' ∧ ∃ a c, e = .returned (.slice a 0 c) := by
  obtain ⟨i0, hin, hz0, hz1, hz2⟩ := info_parts Tryz.infoFact
  have hmk : ∀ wx : World, (Instr.makeSlice 115 (.int .i64 0) (.int .i64 0)).run Tryz.prog wx = .ok (.slice (some ⟨wx.heap.size, 0, none⟩) 0 0) (wx.alloc (.cells #[] 158)) := by
    intro wx
    have := run_make (P := Tryz.prog) wx 115 158 i0 _ Tryz.underlying115 hin hz0 .i64 .i64 0 0 (by omega) (by omega) (by rw [hz2]; omega) (by omega)
    rw [this]
    simp [madeCells, Array.range_zero']
  go_enter Tryz.func59, Tryz.ntmps59
  go_wp2
  go_loop [4] (fun v4 => v4 = .int .i64 0) (fun _ => 0)
  case atStart => rfl
  case round =>
    subst hrel
    go_wp2
    go_ret
    exact ⟨(box3 w _).trans ((box3 _ _).mono (by simp)), _, _, rfl⟩
set_option maxHeartbeats 2000000 in
set_option maxRecDepth 100000 in
theorem Image_rej (na la : Option Addr) (nc lc g o rc : Nat) (a b c d e f : Int) (w : World) (hg : GlobB w) (hlt : g < w.heap.size) (h1 : 1 ≤ rc)
    (hr : ∀ j u, [Value.bool false, .int .i64 a, .int .i64 b, .int .i64 c, .bool false, .int .i64 d, .int .i64 e, .int .i64 f][j]? = some u → w.cell? ⟨g, o + j, none⟩ = some u) :
    Calls Tryz.prog 36 #[.agg #[.slice na 0 nc, .slice la 0 lc, .slice (some ⟨g, o, none⟩) 1 rc]] w fun e w' => e = .returned (.string (bsN [83, 76, 0, 17])) ∧ Below w.heap.size w w' := by
  have HG := Hid.mk2 hg
  have HR := Hid.mk2 hr
  have HB0 := Hid.mk2 (box3 w (.cells #[.slice na 0 nc, .slice la 0 lc, .slice (some ⟨g, o, none⟩) 1 rc] 84))
  have HP := Hid.mk2 (Blk.new w #[.slice na 0 nc, .slice la 0 lc, .slice (some ⟨g, o, none⟩) 1 rc] 84)
  clear hg hr
  go_enter Tryz.func36, Tryz.ntmps36
  go_wp2
  have hz : (w.alloc (.cells #[.slice na 0 nc, .slice la 0 lc, .slice (some ⟨g, o, none⟩) 1 rc] 84)).heap.size = w.heap.size + 1 := by simp
  generalize hw1 : w.alloc (.cells #[.slice na 0 nc, .slice la 0 lc, .slice (some ⟨g, o, none⟩) 1 rc] 84) = w1 at *
  clear hw1
  have p0 := HP.out.cell 0
  have p1 := HP.out.cell 1
  have p2 := HP.out.cell 2
  go_region_with (go_at_call 59; refine (factsOf_none na nc _ _ _).mono ?_; rintro e w2 ⟨hb2, fa, fc, rfl⟩; replace HP := Hid.mk2 (HP.out.drew.below hb2 HP.out.lt); have c0 := HP.out.cell 0; have c1 := HP.out.cell 1; have c2 := HP.out.cell 2; have hb2' : Below w1.heap.size w1 w2 := (below_drewN (Below.refl w1.heap.size w1) 1).trans hb2; have HB2 := Hid.mk2 (HB0.out.trans (hb2'.mono (by omega))); have hs2 := hb2'.size)
  all_goals
    have hG3 := HG.out.below (HB2.out.trans ((box3 w2 (.cells #[.slice na 0 nc, .slice la 0 lc, .slice (some ⟨g, o, none⟩) 1 rc, .slice fa 0 fc, .int .i64 0] 118)).mono HB2.out.size))
    have hlt3 : g < (w2.alloc (.cells #[.slice na 0 nc, .slice la 0 lc, .slice (some ⟨g, o, none⟩) 1 rc, .slice fa 0 fc, .int .i64 0] 118)).heap.size := by simp; omega
    have hr3 : ∀ j u, [Value.bool false, .int .i64 a, .int .i64 b, .int .i64 c, .bool false, .int .i64 d, .int .i64 e, .int .i64 f][j]? = some u → (w2.alloc (.cells #[.slice na 0 nc, .slice la 0 lc, .slice (some ⟨g, o, none⟩) 1 rc, .slice fa 0 fc, .int .i64 0] 118)).cell? ⟨g, o + j, none⟩ = some u := fun j u hj => ((HB2.out.trans ((box3 w2 _).mono HB2.out.size)).cell (p := ⟨g, o + j, none⟩) hlt).trans (HR.out j u hj)
    have HC := Hid.mk2 (Blk.new w2 #[.slice na 0 nc, .slice la 0 lc, .slice (some ⟨g, o, none⟩) 1 rc, .slice fa 0 fc, .int .i64 0] 118)
    have HG3 := Hid.mk2 hG3
    have HR3 := Hid.mk2 hr3
    clear hG3 hr3
    go_wp2_with (first
      | (go_at_call 60; refine (rules_rej w2.heap.size _ _ _ 0 g o rc a b c d e f _ HG3.out HC.out hlt3 h1 HR3.out).mono ?_; rintro e w3 ⟨rfl, hb3⟩; have HC3 := Hid.mk2 (HC.out.below hb3 HC.out.lt); have k4 := HC3.out.cell 4)
      | (go_at_call 61; refine (Whole_zero 17 _).mono ?_; rintro e w4 ⟨rfl, hb4⟩))
    go_ret
    exact ⟨rfl, ((HB2.out.trans ((box3 w2 _).mono HB2.out.size)).trans (hb3.mono (by simp; omega))).trans (hb4.mono (by have := hb3.size; simp at this; omega))⟩
/-- The bytes of the policy that rejects. -/
def rejB : ByteArray := { data := #[114, 101, 106, 101, 99, 116, 59] }
theorem rejB_list : rejB.toList = rejT := bsOf_toList rejT
theorem rej_errs {L R : List RSt} (h : PolicyOf rejT L R) : errsOf (nodesS 0 (L ++ R)) (letsS 0 (L ++ R)) (rulesS 0 (L ++ R)) = (0, 0) := by
  obtain ⟨act, semi, rfl, rfl⟩ := rej_pol h
  rfl
theorem readSound_rej (w : World) (hg : GlobT w) :
    Calls Tryz.prog 35 #[.string rejB] w fun e' w' => Below w.heap.size w w' ∧ ∃ na nc la lc g o rc a b c d e f, e' = .returned (.tuple #[.agg #[.slice na 0 nc, .slice la 0 lc, .slice (some ⟨g, o, none⟩) 1 rc], .int .i64 0, .int .i64 0]) ∧ g < w'.heap.size ∧ 1 ≤ rc ∧ ∀ j u, [Value.bool false, .int .i64 a, .int .i64 b, .int .i64 c, .bool false, .int .i64 d, .int .i64 e, .int .i64 f][j]? = some u → w'.cell? ⟨g, o + j, none⟩ = some u := by
  refine (readSound_fine rejB w hg (by decide) (l := [⟨[114, 101, 106, 101, 99, 116], 0⟩, ⟨[59], 6⟩]) (by rw [rejB_list]; exact rej_fine) (fun L R h => rej_errs (by rw [rejB_list] at h; exact h))).mono ?_
  rintro e' w' ⟨hb, L, R, na, nc, la, lc, ra, rc, hp, rfl, hm⟩
  rw [rejB_list] at hp
  obtain ⟨act, semi, rfl, rfl⟩ := rej_pol hp
  have ho := reads_of_own hm.orl
  have hl : (rulesS 0 ([] ++ [RSt.rule none act none semi])).length = 1 := rfl
  obtain ⟨g, o, cap, hv, hcap, hlt, hc⟩ := ho.pos (by rw [hl]; omega)
  cases hv
  exact ⟨hb, na, nc, la, lc, g, o, rc, _, _, _, _, _, _, rfl, hlt, hcap, hc⟩
set_option maxHeartbeats 2000000 in
theorem Compile_rej (w : World) (hg : GlobT w) (hp : GlobB w) :
    Calls Tryz.prog 9 #[.string rejB] w fun e w' => e = .returned (.tuple #[.string (bsN [83, 76, 0, 17]), .int .i64 0, .int .i64 0]) ∧ Below w.heap.size w w' := by
  have HG := Hid.mk2 hg
  have HP := Hid.mk2 hp
  clear hg hp
  go_enter Tryz.func9, Tryz.ntmps9
  go_wp2_with (first
    | (go_at_call 35; refine (readSound_rej _ HG.out).mono ?_; rintro e' w1 ⟨hb1, na, nc, la, lc, g, o, rc, a, b, c, d, e, f, rfl, hlt, h1, hr⟩; have HB1 := Hid.mk2 hb1; have HR := Hid.mk2 hr; have hbx := box3 w1 (.cells #[.slice na 0 nc, .slice la 0 lc, .slice (some ⟨g, o, none⟩) 1 rc] 84); have HP1 := Hid.mk2 ((HP.out.below hb1).below hbx); have HR1 : Hid (∀ j u, [Value.bool false, .int .i64 a, .int .i64 b, .int .i64 c, .bool false, .int .i64 d, .int .i64 e, .int .i64 f][j]? = some u → (w1.alloc (.cells #[.slice na 0 nc, .slice la 0 lc, .slice (some ⟨g, o, none⟩) 1 rc] 84)).cell? ⟨g, o + j, none⟩ = some u) := (fun j u hj => (hbx.cell (p := ⟨g, o + j, none⟩) hlt).trans (hr j u hj)); have HX := Hid.mk2 hbx; clear hb1 hr hbx)
    | (go_at_call 36; refine (Image_rej na la nc lc g o rc a b c d e f _ HP1.out (by simp; omega) h1 HR1.out).mono ?_; rintro e w2 ⟨rfl, hb2⟩))
  go_ret3
  exact ⟨rfl, (HB1.out.trans (HX.out.mono HB1.out.size)).trans (hb2.mono (by have := HB1.out.size; simp; omega))⟩
set_option maxHeartbeats 1000000 in
theorem Load_rej (sb : Nat) (bs : List Bn) (im : ByteArray) (w : World) (hg : GlobT w) (hp : GlobB w) (h : StoreAt w sb bs im) :
    Calls Tryz.prog 41 #[.pointer (some ⟨sb, 0, none⟩), .string rejB] w fun e w' => e = .returned (.tuple #[.int .i64 0, .int .i64 0]) ∧ StoreAt w' sb bs (bsN [83, 76, 0, 17]) ∧ But sb w w' := by
  have HG := Hid.mk2 hg
  have HP := Hid.mk2 hp
  have HS := Hid.mk2 h
  clear hg hp h
  go_enter Tryz.func41, Tryz.ntmps41
  go_wp2_with (go_at_call 9; refine (Compile_rej _ HG.out HP.out).mono ?_; rintro e w1 ⟨rfl, hb1⟩; replace HS := Hid.mk2 (HS.out.below hb1); obtain ⟨a, c, h1, h2⟩ := HS.out.ok; have c1 := h1.cell 1; have f1 := h1.free 1)
  go_ret2
  refine ⟨rfl, ⟨a, c, h1.set 1 _, ?_⟩, (But.of hb1).trans (But.set sb 1 _ h1.lt)⟩
  refine own_but h2 (But.set sb 1 _ h1.lt) fun k hk => ?_
  have := (h2.lt k hk).1
  omega
end Go.Proofs.YtnnbhebklnappaaGreatDoor

set_option linter.unusedVariables false
set_option linter.unusedSimpArgs false
namespace Go.Proofs.YtnnbhebklnappaaGreatDoor
open Go.RowKit Go.Deep

theorem k_eq (k n : Nat) : ((k : Int) == (n : Int)) = decide (k = n) := by
  by_cases h : k = n <;> simp [h] <;> omega
set_option maxHeartbeats 1000000 in
theorem isChoice_any (n : PNode) (w : World) :
    Calls Tryz.prog 119 #[nodA n] w fun e w' => e = .returned (.bool (isChK (kindP n.tok.text))) ∧ Below w.heap.size w w' := by
  unfold nodA
  generalize kindP n.tok.text = k
  by_cases h7 : k = 7
  · subst h7
    go_enter Tryz.func119, Tryz.ntmps119
    go_wp2
    go_ret
    exact ⟨rfl, box3 w _⟩
  · by_cases h8 : k = 8
    · subst h8
      go_enter Tryz.func119, Tryz.ntmps119
      go_wp2
      go_ret
      exact ⟨rfl, box3 w _⟩
    · have e7 : ((k : Int) == 7) = false := by simp; omega
      have e8 : ((k : Int) == 8) = false := by simp; omega
      have HK : Hid (isChK k = false) := by simp [Hid, isChK, h7, h8]
      go_enter Tryz.func119, Tryz.ntmps119
      go_wp2
      go_ret
      exact ⟨by rw [HK.out]; rfl, box3 w _⟩
set_option maxHeartbeats 1000000 in
theorem decides_any (k : Nat) (w : World) :
    Calls Tryz.prog 138 #[.int .i64 k] w fun e w' => e = .returned (.int .i64 (decK k)) ∧ w' = w := by
  by_cases h8 : k = 8
  · subst h8
    go_enter Tryz.func138, Tryz.ntmps138
    go_wp2
    go_ret
    exact ⟨rfl, rfl⟩
  · have e8 : ((k : Int) == 8) = false := by simp; omega
    have HK : Hid (decK k = 0) := by simp [Hid, decK, h8]
    go_enter Tryz.func138, Tryz.ntmps138
    go_wp2
    go_ret
    exact ⟨by rw [HK.out]; rfl, rfl⟩
set_option maxHeartbeats 1000000 in
theorem leaves_any (k : Nat) (w : World) :
    Calls Tryz.prog 161 #[.int .i64 k] w fun e w' => e = .returned (.int .i64 (leaK k : Nat)) ∧ w' = w := by
  by_cases h8 : k = 8
  · subst h8
    go_enter Tryz.func161, Tryz.ntmps161
    go_wp2
    go_ret
    exact ⟨rfl, rfl⟩
  · have e8 : ((k : Int) == 8) = false := by simp; omega
    have HK : Hid (leaK k = 14) := by simp [Hid, leaK, h8]
    go_enter Tryz.func161, Tryz.ntmps161
    go_wp2
    go_ret
    exact ⟨by rw [HK.out]; rfl, rfl⟩
set_option maxHeartbeats 4000000 in
set_option maxRecDepth 100000 in
theorem operationOf_any (n : PNode) (w : World) :
    Calls Tryz.prog 118 #[nodA n] w fun e w' => e = .returned (.int .i64 (opK (kindP n.tok.text) n.ops : Nat)) ∧ Below w.heap.size w w' := by
  unfold nodA
  generalize kindP n.tok.text = k
  generalize n.ops = o
  have hd : (k = 9 ∨ k = 28 ∨ k = 27 ∨ k = 29 ∨ k = 30 ∨ k = 31 ∨ k = 25 ∨ k = 26 ∨ k = 23) ∨ (k ≠ 9 ∧ k ≠ 28 ∧ k ≠ 27 ∧ k ≠ 29 ∧ k ≠ 30 ∧ k ≠ 31 ∧ k ≠ 25 ∧ k ≠ 26 ∧ k ≠ 23) := by omega
  rcases hd with (rfl | rfl | rfl | rfl | rfl | rfl | rfl | rfl | rfl) | ⟨h1, h2, h3, h4, h5, h6, h7, h8, h9⟩
  case inl.inr.inl =>
    by_cases ho : o = 1
    · subst ho
      go_enter Tryz.func118, Tryz.ntmps118
      go_wp2
      go_ret
      exact ⟨rfl, box3 w _⟩
    · have e1 : ((o : Int) == 1) = false := by simp; omega
      have HK : Hid (opK 28 o = 5) := by simp [Hid, opK, ho]
      go_enter Tryz.func118, Tryz.ntmps118
      go_wp2
      go_ret
      exact ⟨by rw [HK.out]; rfl, box3 w _⟩
  case inr =>
    have e1 : ((k : Int) == 9) = false := by simp; omega
    have e2 : ((k : Int) == 28) = false := by simp; omega
    have e3 : ((k : Int) == 27) = false := by simp; omega
    have e4 : ((k : Int) == 29) = false := by simp; omega
    have e5 : ((k : Int) == 30) = false := by simp; omega
    have e6 : ((k : Int) == 31) = false := by simp; omega
    have e7 : ((k : Int) == 25) = false := by simp; omega
    have e8 : ((k : Int) == 26) = false := by simp; omega
    have e9 : ((k : Int) == 23) = false := by simp; omega
    have HK : Hid (opK k o = 12) := by simp [Hid, opK, h1, h2, h3, h4, h5, h6, h7, h8, h9]
    go_enter Tryz.func118, Tryz.ntmps118
    go_wp2
    go_ret
    exact ⟨by rw [HK.out]; rfl, box3 w _⟩
  all_goals
    go_enter Tryz.func118, Tryz.ntmps118
    go_wp2
    go_ret
    exact ⟨rfl, box3 w _⟩
/-- Facts in memory. -/
def cellF (f : Fact) : List Value := [.bool f.isSome, .int .i64 (f.getD 0)]
def cellsF (l : List Fact) : List Value := l.flatMap cellF
def factA (f : Fact) : Value := .agg #[.bool f.isSome, .int .i64 (f.getD 0)]
theorem cellF_length (f : Fact) : (cellF f).length = 2 := rfl
theorem atF_neg {fs : List Fact} {i : Int} (h : i < 0) : atF fs i = none := if_pos h
theorem atF_nat (fs : List Fact) (n : Nat) : atF fs (n : Int) = fs.getD n none := by
  rw [atF, if_neg (by omega), Int.toNat_natCast]
end Go.Proofs.YtnnbhebklnappaaGreatDoor

set_option linter.unusedVariables false
set_option linter.unusedSimpArgs false
namespace Go.Proofs.YtnnbhebklnappaaGreatDoor
open Go.RowKit Go.Deep

theorem two_below (w : World) (o o' : Obj) : Below w.heap.size w ((w.alloc o).alloc o') := (box3 w o).trans ((box3 _ o').mono (by simp))
theorem three_below (w : World) (o o' o'' : Obj) : Below w.heap.size w (((w.alloc o).alloc o').alloc o'') := (two_below w o o').trans ((box3 _ o'').mono (by simp; omega))
set_option maxHeartbeats 1000000 in
theorem factAt_any (fs : List Fact) (fv : Value) (i : Int) (w : World) (h : Reads w fv fs.length (cellsF fs)) (hb : fs.length ≤ 401) (hi : -2 ≤ i ∧ i ≤ 1000) :
    Calls Tryz.prog 116 #[fv, .int .i64 i] w fun e w' => e = .returned (factA (atF fs i)) ∧ Below w.heap.size w w' := by
  obtain ⟨a, c, rfl⟩ := h.shape
  have HH := hideP h
  clear h
  by_cases h0 : i < 0
  · have hd : decide (i < 0) = true := by simpa using h0
    have HN := hideP (atF_neg (fs := fs) h0)
    go_enter Tryz.func116, Tryz.ntmps116
    go_wp2
    refine bodyPost_ret (v := .agg #[.bool false, .int .i64 0]) (by simp [results, Tryz.results116, go_sem]) rfl ⟨by rw [HN.out]; rfl, box3 w _⟩
  · obtain ⟨n, rfl⟩ : ∃ n : Nat, i = n := ⟨i.toNat, by omega⟩
    by_cases hn : n < fs.length
    · obtain ⟨g, o, cap, hcut, hcap, hg, hc⟩ := HH.out.pos (by omega)
      cases hcut
      have e0 := hc (n * 2 + 0) _ (flat_get cellF 2 (fun _ => rfl) fs n hn 0 (by omega))
      have e1 := hc (n * 2 + 1) _ (flat_get cellF 2 (fun _ => rfl) fs n hn 1 (by omega))
      have HN : Hid (atF fs (n : Int) = fs[n]) := by rw [Hid, atF_nat, List.getD_eq_getElem?_getD, List.getElem?_eq_getElem hn]; rfl
      generalize fs[n] = f at *
      have e0' : w.cell? ⟨g, o + n * 2, none⟩ = some (.bool f.isSome) := by rw [Nat.add_zero] at e0; exact e0
      have e1' : w.cell? ⟨g, o + n * 2 + 1, none⟩ = some (.int .i64 (f.getD 0)) := by rw [Nat.add_assoc]; exact e1
      clear e0 e1 hc
      go_enter Tryz.func116, Tryz.ntmps116
      go_wp2
      refine bodyPost_ret (v := .agg #[.bool f.isSome, .int .i64 (f.getD 0)]) (by simp [results, Tryz.results116, go_sem]) rfl ⟨by rw [HN.out]; rfl, box3 w _⟩
    · have HN : Hid (atF fs (n : Int) = none) := by rw [Hid, atF_nat, List.getD_eq_getElem?_getD, List.getElem?_eq_none (by omega)]; rfl
      go_enter Tryz.func116, Tryz.ntmps116
      go_wp2
      refine bodyPost_ret (v := .agg #[.bool false, .int .i64 0]) (by simp [results, Tryz.results116, go_sem]) rfl ⟨by rw [HN.out]; rfl, box3 w _⟩
set_option maxHeartbeats 1000000 in
theorem meantBy_any (ls : List PLet) (lv : Value) (d : ByteArray) (w : World) (h : Reads w lv ls.length (cellsLt ls)) (hb : ls.length ≤ 401) (hx : ∀ p ∈ ls, 1 ≤ p.val.behind ∧ p.val.behind ≤ 401) :
    Calls Tryz.prog 122 #[.string d, lv] w fun e w' => e = .returned (.int .i64 (meantI ls d.toList)) ∧ Below w.heap.size w w' := by
  obtain ⟨a, c, rfl⟩ := h.shape
  have HH := hideP h
  have hle := letIx_le ls d.toList
  by_cases hlt : letIx ls d.toList < ls.length
  · obtain ⟨g, o, cap, hcut, hcap, hg, hc⟩ := h.pos (by omega)
    cases hcut
    have fc := hc (letIx ls d.toList * 6 + 5) _ (flat_get cellL 6 (fun _ => rfl) ls _ hlt 5 (by omega))
    obtain ⟨pl, hpl⟩ : ∃ pl, pl = ls[letIx ls d.toList] := ⟨_, rfl⟩
    have hbe := hx pl (by rw [hpl]; exact List.getElem_mem hlt)
    have HNK : Hid (meantI ls d.toList = (pl.val.behind : Int) - 1) := by rw [Hid, meantI, List.getElem?_eq_getElem hlt, hpl]
    rw [← hpl] at fc
    obtain ⟨ix, hix⟩ : ∃ ix, letIx ls d.toList = ix := ⟨_, rfl⟩
    have HIX := hideP hix
    rw [hix] at fc hlt
    have d5 : w.cell? ⟨g, o + ix * 6 + 5, none⟩ = some (.int .i64 pl.val.behind) := by rw [Nat.add_assoc]; exact fc
    clear fc hpl hc h hx hle hix
    rw [HNK.out]
    go_enter Tryz.func122, Tryz.ntmps122
    go_wp2_with (go_at_call 111; refine (LetOf_any ls _ d _ HH.out hb).mono ?_; rintro e' w4 ⟨rfl, rfl⟩; rw [HIX.out])
    go_ret
    exact ⟨rfl, Below.refl _ _⟩
  · have hix : letIx ls d.toList = ls.length := by omega
    have HIX := hideP hix
    have HNK : Hid (meantI ls d.toList = -1) := by rw [Hid, meantI, List.getElem?_eq_none (by omega)]
    clear hx hle hix h
    rw [HNK.out]
    go_enter Tryz.func122, Tryz.ntmps122
    go_wp2_with (go_at_call 111; refine (LetOf_any ls _ d _ HH.out hb).mono ?_; rintro e' w4 ⟨rfl, rfl⟩; rw [HIX.out])
    go_ret
    exact ⟨rfl, Below.refl _ _⟩
/-- The number of the first digits. -/
theorem numT_step (t : Txt) (i : Nat) (h : i < t.length) : numT (t.take (i + 1)) = numT (t.take i) * 10 + (t[i].toNat : Int) - 48 := by
  rw [numT, numT, List.take_succ_eq_append_getElem h, List.foldl_append]
  rfl
theorem numT_bound (t : Txt) (hd : ∀ c ∈ t, isDig c = true) : 0 ≤ numT t ∧ numT t < 10 ^ t.length := by
  have : ∀ k, k ≤ t.length → 0 ≤ numT (t.take k) ∧ numT (t.take k) < 10 ^ k := by
    intro k
    induction k with
    | zero => intro _; simp [numT]
    | succ k ih =>
      intro hk
      have := ih (by omega)
      rw [numT_step t k (by omega), Int.pow_succ]
      have hc := hd t[k] (List.getElem_mem _)
      rw [isDig_int] at hc
      simp only [Bool.and_eq_true, decide_eq_true_eq] at hc
      omega
  have h1 := this t.length (Nat.le_refl _)
  rw [List.take_length] at h1
  exact h1
theorem pow_le17 (k : Nat) (h : k ≤ 17) : (10 : Int) ^ k ≤ 100000000000000000 := by
  have : (10 : Nat) ^ k ≤ 10 ^ 17 := Nat.pow_le_pow_right (by omega) h
  have h2 : ((10 ^ k : Nat) : Int) ≤ ((10 ^ 17 : Nat) : Int) := Int.ofNat_le.2 this
  simpa using h2
set_option maxHeartbeats 1000000 in
theorem numberOf_any (d : ByteArray) (w : World) (hl : d.size ≤ 18) (hd : ∀ c ∈ d.toList, isDig c = true) :
    Calls Tryz.prog 139 #[.string d] w fun e w' => e = .returned (.int .i64 (numT d.toList)) ∧ w' = w := by
  have HD := hideP hd
  clear hd
  go_enter Tryz.func139, Tryz.ntmps139
  go_wp2
  go_loop [3, 4] (fun vn vi => ∃ i : Nat, i ≤ d.size ∧ vi = .int .i64 i ∧ vn = .int .i64 (numT (d.toList.take i))) (fun _ i => d.size - (intOf i).toNat)
  case atStart => exact ⟨0, Nat.zero_le _, rfl, rfl⟩
  case round =>
    obtain ⟨i, hi, rfl, rfl⟩ := hrel
    by_cases hlt : i < d.size
    · have hs := numT_step d.toList i (by rw [toList_length]; exact hlt)
      have hge : d.toList[i]'(by rw [toList_length]; exact hlt) = d[i] := by
        have := getElem_toList d i hlt
        rw [List.getElem?_eq_getElem (by rw [toList_length]; exact hlt)] at this
        exact Option.some.inj this
      have hb := numT_bound (d.toList.take i) (fun c hc => HD.out c (List.mem_of_mem_take hc))
      rw [List.length_take, toList_length] at hb
      have hp := pow_le17 (min i d.size) (by omega)
      rw [hge] at hs
      have hc8 := (d[i]).toNat_lt
      generalize numT (d.toList.take i) = z at *
      have HS := hideP hs
      clear hs hge
      go_wp2
      go_round
      case rel =>
        refine ⟨i + 1, by omega, by go_num, ?_⟩
        rw [HS.out]
      case measure => simp [intOf]; omega
    · go_wp2
      go_ret
      exact ⟨ret_int (by rw [show i = d.size by omega, ← toList_length, List.take_length]), rfl⟩
end Go.Proofs.YtnnbhebklnappaaGreatDoor
