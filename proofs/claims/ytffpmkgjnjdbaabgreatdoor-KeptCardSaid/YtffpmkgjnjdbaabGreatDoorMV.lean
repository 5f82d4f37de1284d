/-
  The image of the policy that rejects: Bytes, Whole, act, applies, rules, factsOf, Image, Compile, Load.
  A store with these bins and the policy that rejects: filled.
-/
import Derived.Test.YtffpmkgjnjdbaabGreatDoorMU
import Derived.Test.YtffpmkgjnjdbaabGreatDoorMR
import Derived.Deep.RegionWith
import Derived.Test.YtffpmkgjnjdbaabGreatDoorMT
set_option linter.unusedVariables false
set_option linter.unusedSimpArgs false
namespace Go.Proofs.YtffpmkgjnjdbaabGreatDoor
open Go.RowKit

/-- The table of how many bytes stand behind an operation lies in memory as the text lays it. -/
structure GlobB (w : World) : Prop where
  bytes : ∀ c, c < 18 → w.cell? ⟨0, c, none⟩ = some (.int .i64 (behindN c))
  size : 0 < w.heap.size
theorem GlobB.below {w w' : World} (h : GlobB w) (hb : Below w.heap.size w w') : GlobB w' :=
  ⟨fun c hc => (hb.cell (p := ⟨0, c, none⟩) h.size).trans (h.bytes c hc), Nat.lt_of_lt_of_le h.size hb.size⟩
theorem bsN_len (l : List Nat) : (bsN l).size = l.length := by simp [bsN, ByteArray.size]
set_option maxHeartbeats 1000000 in
set_option maxRecDepth 100000 in
theorem Bytes_bare (k : Nat) (hk : k < 18) (hb : behindN k = 0) (w : World) (hg : GlobB w) :
    Calls Tryz.prog 96 #[.int .i64 k, .int .i64 0] w fun e w' => e = .returned (.string (bsN [k])) ∧ Below w.heap.size w w' := by
  have hcv := conv_bytes (w.alloc (Obj.cells #[Value.int .u8 k] 5)) w.heap.size [k] 5 (Blk.new w _ _)
  simp only [List.length_cons, List.length_nil, Nat.zero_add] at hcv
  have hc0 := ((box3 w (Obj.cells #[Value.int .u8 k] 5)).cell (p := ⟨0, k, none⟩) hg.size).trans (hg.bytes k hk)
  rw [hb] at hc0
  have hk8 : k < 256 := by omega
  go_enter Tryz.func96, Tryz.ntmps96
  go_wp2
  go_loop [5, 7] (fun vr vi => vr = .slice (some ⟨w.heap.size, 0, none⟩) 1 1 ∧ vi = .int .i64 0) (fun _ _ => 0)
  case atStart => exact ⟨rfl, rfl⟩
  case round =>
    obtain ⟨rfl, rfl⟩ := hrel
    go_wp2
    go_ret
    exact ⟨rfl, box3 _ _⟩
set_option maxHeartbeats 1000000 in
set_option maxRecDepth 100000 in
theorem Whole_zero (k : Nat) (w : World) :
    Calls Tryz.prog 70 #[.int .i64 0, .string (bsN [k])] w fun e w' => e = .returned (.string (bsN [83, 76, 0, k])) ∧ Below w.heap.size w w' := by
  have hcv := conv_bytes (w.alloc (Obj.cells #[Value.int .u8 83, Value.int .u8 76, Value.int .u8 0] 5)) w.heap.size [83, 76, 0] 5 (Blk.new w _ _)
  simp only [List.length_cons, List.length_nil, Nat.zero_add, Nat.reduceAdd] at hcv
  have z0 : (bsN [83, 76, 0]).size = 3 := bsN_len _
  have z1 : (bsN [k]).size = 1 := bsN_len _
  have HE : Hid (bsN [83, 76, 0] ++ bsN [k] = bsN [83, 76, 0, k]) := by rw [Hid, bsN_append]; rfl
  go_enter Tryz.func70, Tryz.ntmps70
  have hbits : bits BinOp.and IntKind.i64 0 255 = 0 := by decide
  go_wp2
  go_ret
  exact ⟨by rw [← HE.out]; rfl, box3 _ _⟩
/-- A rule that rejects, whatever stands. -/
def rejR (a b c d e f : Int) : Value := .agg #[.bool false, .int .i64 a, .int .i64 b, .int .i64 c, .bool false, .int .i64 d, .int .i64 e, .int .i64 f]
set_option maxHeartbeats 1000000 in
theorem act_rej (v : Value) (a b c d e f : Int) (w : World) (hg : GlobB w) :
    Calls Tryz.prog 94 #[v, rejR a b c d e f] w fun e w' => e = .returned (.string (bsN [17])) ∧ Below w.heap.size w w' := by
  have HG := Hid.mk2 (hg.below (box3 w (.cells #[.bool false, .int .i64 a, .int .i64 b, .int .i64 c, .bool false, .int .i64 d, .int .i64 e, .int .i64 f] 177)))
  clear hg
  unfold rejR
  go_enter Tryz.func94, Tryz.ntmps94
  go_wp2_with (go_at_call 96; refine (Bytes_bare 17 (by omega) rfl _ HG.out).mono ?_; rintro e w1 ⟨rfl, hb1⟩)
  go_ret
  exact ⟨rfl, (box3 w _).trans (hb1.mono (by simp))⟩
set_option maxHeartbeats 1000000 in
theorem applies_rej (v : Value) (a b c d e f : Int) (w : World) :
    Calls Tryz.prog 93 #[v, rejR a b c d e f] w fun e w' => e = .returned (.int .i64 2) ∧ Below w.heap.size w w' := by
  unfold rejR
  go_enter Tryz.func93, Tryz.ntmps93
  go_wp2
  go_ret
  exact ⟨rfl, box3 w _⟩
set_option maxHeartbeats 2000000 in
set_option maxRecDepth 100000 in
theorem rules_rej (cb : Nat) (nv lv fv : Value) (h : Int) (g o rc : Nat) (a b c d e f : Int) (w : World) (hg : GlobB w) (hc : Blk w cb #[nv, lv, .slice (some ⟨g, o, none⟩) 1 rc, fv, .int .i64 h] 131) (hlt : g < w.heap.size) (h1 : 1 ≤ rc)
    (hr : ∀ j u, [Value.bool false, .int .i64 a, .int .i64 b, .int .i64 c, .bool false, .int .i64 d, .int .i64 e, .int .i64 f][j]? = some u → w.cell? ⟨g, o + j, none⟩ = some u) :
    Calls Tryz.prog 69 #[.pointer (some ⟨cb, 0, none⟩)] w fun e w' => e = .returned (.string (bsN [17])) ∧ Below w.heap.size w w' := by
  have HG := Hid.mk2 hg
  have HC := Hid.mk2 hc
  have k2 := hc.cell 2
  have r0 := hr 0 _ rfl
  have r1 := hr 1 _ rfl
  have r2 := hr 2 _ rfl
  have r3 := hr 3 _ rfl
  have r4 := hr 4 _ rfl
  have r5 := hr 5 _ rfl
  have r6 := hr 6 _ rfl
  have r7 := hr 7 _ rfl
  rw [Nat.add_zero] at r0
  have HB := Hid.mk2 (Blk.new w #[.bool false, .int .i64 a, .int .i64 b, .int .i64 c, .bool false, .int .i64 d, .int .i64 e, .int .i64 f] 177)
  have HE : Hid ({ data := #[] } ++ bsN [17] = bsN [17]) := by simp [Hid, bsN]; rfl
  have z1 : (bsN [17]).size = 1 := bsN_len _
  clear hr hg hc
  go_enter Tryz.func69, Tryz.ntmps69
  go_wp2
  go_loop [3, 4] (fun vc vi => vc = .string { data := #[] } ∧ vi = .int .i64 0) (fun _ _ => 0)
  case atStart => exact ⟨rfl, rfl⟩
  case round =>
    obtain ⟨rfl, rfl⟩ := hrel
    go_wp2_with (first
      | (go_at_call 93; refine (applies_rej _ a b c d e f _).mono ?_; rintro e w1 ⟨rfl, hb1⟩; have HB1 := Hid.mk2 (HB.out.below hb1 HB.out.lt); have b0 := HB1.out.cell 0; have b1 := HB1.out.cell 1; have b2 := HB1.out.cell 2; have b3 := HB1.out.cell 3; have b4 := HB1.out.cell 4; have b5 := HB1.out.cell 5; have b6 := HB1.out.cell 6; have b7 := HB1.out.cell 7)
      | (go_at_call 94; refine (act_rej _ a b c d e f _ ((HG.out.below (box3 w _)).below hb1)).mono ?_; rintro e w2 ⟨rfl, hb2⟩))
    go_ret
    exact ⟨by rw [← HE.out]; rfl, ((box3 w _).trans (hb1.mono (by simp))).trans (hb2.mono (by have := hb1.size; simp at this; omega))⟩
theorem Tryz.infoFact : (Tryz.prog.info? 170).map (fun i => (i.zero, i.size, i.bytes)) = some (some (.agg #[.bool false, .int .i64 0]), 2, 16) := by kernel_rfl
set_option maxHeartbeats 2000000 in
set_option maxRecDepth 100000 in
theorem factsOf_none (na : Option Addr) (nc : Nat) (lv rv : Value) (w : World) :
    Calls Tryz.prog 68 #[.agg #[.slice na 0 nc, lv, rv]] w fun e w' => Below w.heap.size w w' ∧ ∃ a c, e = .returned (.slice a 0 c) := by
  obtain ⟨i0, hin, hz0, hz1, hz2⟩ := info_parts Tryz.infoFact
  have hmk : ∀ wx : World, (Instr.makeSlice 128 (.int .i64 0) (.int .i64 0)).run Tryz.prog wx = .ok (.slice (some ⟨wx.heap.size, 0, none⟩) 0 0) (wx.alloc (.cells #[] 170)) := by
    intro wx
    have := run_make (P := Tryz.prog) wx 128 170 i0 _ Tryz.underlying128 hin hz0 .i64 .i64 0 0 (by omega) (by omega) (by rw [hz2]; omega) (by omega)
    rw [this]
    simp [madeCells, Array.range_zero']
  go_enter Tryz.func68, Tryz.ntmps68
  go_wp2
  go_loop [4] (fun v4 => v4 = .int .i64 0) (fun _ => 0)
  case atStart => rfl
  case round =>
    subst hrel
    go_wp2
    go_ret
    exact ⟨(box3 w _).trans ((box3 _ _).mono (by simp)), _, _, rfl⟩
set_option maxHeartbeats 2000000 in
set_option maxRecDepth 100000 in
theorem Image_rej (na la : Option Addr) (nc lc g o rc : Nat) (a b c d e f : Int) (w : World) (hg : GlobB w) (hlt : g < w.heap.size) (h1 : 1 ≤ rc)
    (hr : ∀ j u, [Value.bool false, .int .i64 a, .int .i64 b, .int .i64 c, .bool false, .int .i64 d, .int .i64 e, .int .i64 f][j]? = some u → w.cell? ⟨g, o + j, none⟩ = some u) :
    Calls Tryz.prog 43 #[.agg #[.slice na 0 nc, .slice la 0 lc, .slice (some ⟨g, o, none⟩) 1 rc]] w fun e w' => e = .returned (.string (bsN [83, 76, 0, 17])) ∧ Below w.heap.size w w' := by
  have HG := Hid.mk2 hg
  have HR := Hid.mk2 hr
  have HB0 := Hid.mk2 (box3 w (.cells #[.slice na 0 nc, .slice la 0 lc, .slice (some ⟨g, o, none⟩) 1 rc] 94))
  have HP := Hid.mk2 (Blk.new w #[.slice na 0 nc, .slice la 0 lc, .slice (some ⟨g, o, none⟩) 1 rc] 94)
  clear hg hr
  go_enter Tryz.func43, Tryz.ntmps43
  go_wp2
  have hz : (w.alloc (.cells #[.slice na 0 nc, .slice la 0 lc, .slice (some ⟨g, o, none⟩) 1 rc] 94)).heap.size = w.heap.size + 1 := by simp
  generalize hw1 : w.alloc (.cells #[.slice na 0 nc, .slice la 0 lc, .slice (some ⟨g, o, none⟩) 1 rc] 94) = w1 at *
  clear hw1
  have p0 := HP.out.cell 0
  have p1 := HP.out.cell 1
  have p2 := HP.out.cell 2
  go_region_with (go_at_call 68; refine (factsOf_none na nc _ _ _).mono ?_; rintro e w2 ⟨hb2, fa, fc, rfl⟩; replace HP := Hid.mk2 (HP.out.drew.below hb2 HP.out.lt); have c0 := HP.out.cell 0; have c1 := HP.out.cell 1; have c2 := HP.out.cell 2; have hb2' : Below w1.heap.size w1 w2 := (below_drewN (Below.refl w1.heap.size w1) 1).trans hb2; have HB2 := Hid.mk2 (HB0.out.trans (hb2'.mono (by omega))); have hs2 := hb2'.size)
  all_goals
    have hG3 := HG.out.below (HB2.out.trans ((box3 w2 (.cells #[.slice na 0 nc, .slice la 0 lc, .slice (some ⟨g, o, none⟩) 1 rc, .slice fa 0 fc, .int .i64 0] 131)).mono HB2.out.size))
    have hlt3 : g < (w2.alloc (.cells #[.slice na 0 nc, .slice la 0 lc, .slice (some ⟨g, o, none⟩) 1 rc, .slice fa 0 fc, .int .i64 0] 131)).heap.size := by simp; omega
    have hr3 : ∀ j u, [Value.bool false, .int .i64 a, .int .i64 b, .int .i64 c, .bool false, .int .i64 d, .int .i64 e, .int .i64 f][j]? = some u → (w2.alloc (.cells #[.slice na 0 nc, .slice la 0 lc, .slice (some ⟨g, o, none⟩) 1 rc, .slice fa 0 fc, .int .i64 0] 131)).cell? ⟨g, o + j, none⟩ = some u := fun j u hj => ((HB2.out.trans ((box3 w2 _).mono HB2.out.size)).cell (p := ⟨g, o + j, none⟩) hlt).trans (HR.out j u hj)
    have HC := Hid.mk2 (Blk.new w2 #[.slice na 0 nc, .slice la 0 lc, .slice (some ⟨g, o, none⟩) 1 rc, .slice fa 0 fc, .int .i64 0] 131)
    have HG3 := Hid.mk2 hG3
    have HR3 := Hid.mk2 hr3
    clear hG3 hr3
    go_wp2_with (first
      | (go_at_call 69; refine (rules_rej w2.heap.size _ _ _ 0 g o rc a b c d e f _ HG3.out HC.out hlt3 h1 HR3.out).mono ?_; rintro e w3 ⟨rfl, hb3⟩; have HC3 := Hid.mk2 (HC.out.below hb3 HC.out.lt); have k4 := HC3.out.cell 4)
      | (go_at_call 70; refine (Whole_zero 17 _).mono ?_; rintro e w4 ⟨rfl, hb4⟩))
    go_ret
    exact ⟨rfl, ((HB2.out.trans ((box3 w2 _).mono HB2.out.size)).trans (hb3.mono (by simp; omega))).trans (hb4.mono (by have := hb3.size; simp at this; omega))⟩
/-- The bytes of the policy that rejects. -/
def rejB : ByteArray := { data := #[114, 101, 106, 101, 99, 116, 59] }
theorem rejB_list : rejB.toList = rejT := bsOf_toList rejT
theorem rej_errs {L R : List RSt} (h : PolicyOf rejT L R) : errsOf (nodesS 0 (L ++ R)) (letsS 0 (L ++ R)) (rulesS 0 (L ++ R)) = (0, 0) := by
  obtain ⟨act, semi, rfl, rfl⟩ := rej_pol h
  rfl
theorem readSound_rej (w : World) (hg : GlobT w) :
    Calls Tryz.prog 42 #[.string rejB] w fun e' w' => Below w.heap.size w w' ∧ ∃ na nc la lc g o rc a b c d e f, e' = .returned (.tuple #[.agg #[.slice na 0 nc, .slice la 0 lc, .slice (some ⟨g, o, none⟩) 1 rc], .int .i64 0, .int .i64 0]) ∧ g < w'.heap.size ∧ 1 ≤ rc ∧ ∀ j u, [Value.bool false, .int .i64 a, .int .i64 b, .int .i64 c, .bool false, .int .i64 d, .int .i64 e, .int .i64 f][j]? = some u → w'.cell? ⟨g, o + j, none⟩ = some u := by
  refine (readSound_fine rejB w hg (by decide) (l := [⟨[114, 101, 106, 101, 99, 116], 0⟩, ⟨[59], 6⟩]) (by rw [rejB_list]; exact rej_fine) (fun L R h => rej_errs (by rw [rejB_list] at h; exact h))).mono ?_
  rintro e' w' ⟨hb, L, R, na, nc, la, lc, ra, rc, hp, rfl, hm⟩
  rw [rejB_list] at hp
  obtain ⟨act, semi, rfl, rfl⟩ := rej_pol hp
  have ho := reads_of_own hm.orl
  have hl : (rulesS 0 ([] ++ [RSt.rule none act none semi])).length = 1 := rfl
  obtain ⟨g, o, cap, hv, hcap, hlt, hc⟩ := ho.pos (by rw [hl]; omega)
  cases hv
  exact ⟨hb, na, nc, la, lc, g, o, rc, _, _, _, _, _, _, rfl, hlt, hcap, hc⟩
set_option maxHeartbeats 2000000 in
theorem Compile_rej (w : World) (hg : GlobT w) (hp : GlobB w) :
    Calls Tryz.prog 11 #[.string rejB] w fun e w' => e = .returned (.tuple #[.string (bsN [83, 76, 0, 17]), .int .i64 0, .int .i64 0]) ∧ Below w.heap.size w w' := by
  have HG := Hid.mk2 hg
  have HP := Hid.mk2 hp
  clear hg hp
  go_enter Tryz.func11, Tryz.ntmps11
  go_wp2_with (first
    | (go_at_call 42; refine (readSound_rej _ HG.out).mono ?_; rintro e' w1 ⟨hb1, na, nc, la, lc, g, o, rc, a, b, c, d, e, f, rfl, hlt, h1, hr⟩; have HB1 := Hid.mk2 hb1; have HR := Hid.mk2 hr; have hbx := box3 w1 (.cells #[.slice na 0 nc, .slice la 0 lc, .slice (some ⟨g, o, none⟩) 1 rc] 94); have HP1 := Hid.mk2 ((HP.out.below hb1).below hbx); have HR1 : Hid (∀ j u, [Value.bool false, .int .i64 a, .int .i64 b, .int .i64 c, .bool false, .int .i64 d, .int .i64 e, .int .i64 f][j]? = some u → (w1.alloc (.cells #[.slice na 0 nc, .slice la 0 lc, .slice (some ⟨g, o, none⟩) 1 rc] 94)).cell? ⟨g, o + j, none⟩ = some u) := (fun j u hj => (hbx.cell (p := ⟨g, o + j, none⟩) hlt).trans (hr j u hj)); have HX := Hid.mk2 hbx; clear hb1 hr hbx)
    | (go_at_call 43; refine (Image_rej na la nc lc g o rc a b c d e f _ HP1.out (by simp; omega) h1 HR1.out).mono ?_; rintro e w2 ⟨rfl, hb2⟩))
  go_ret3
  exact ⟨rfl, (HB1.out.trans (HX.out.mono HB1.out.size)).trans (hb2.mono (by have := HB1.out.size; simp; omega))⟩
set_option maxHeartbeats 1000000 in
theorem Load_rej (sb : Nat) (bs : List Bn) (im : ByteArray) (w : World) (hg : GlobT w) (hp : GlobB w) (h : StoreAt w sb bs im) :
    Calls Tryz.prog 49 #[.pointer (some ⟨sb, 0, none⟩), .string rejB] w fun e w' => e = .returned (.tuple #[.int .i64 0, .int .i64 0]) ∧ StoreAt w' sb bs (bsN [83, 76, 0, 17]) ∧ But sb w w' := by
  have HG := Hid.mk2 hg
  have HP := Hid.mk2 hp
  have HS := Hid.mk2 h
  clear hg hp h
  go_enter Tryz.func49, Tryz.ntmps49
  go_wp2_with (go_at_call 11; refine (Compile_rej _ HG.out HP.out).mono ?_; rintro e w1 ⟨rfl, hb1⟩; replace HS := Hid.mk2 (HS.out.below hb1); obtain ⟨a, c, h1, h2⟩ := HS.out.ok; have c1 := h1.cell 1; have f1 := h1.free 1)
  go_ret2
  refine ⟨rfl, ⟨a, c, h1.set 1 _, ?_⟩, (But.of hb1).trans (But.set sb 1 _ h1.lt)⟩
  refine own_but h2 (But.set sb 1 _ h1.lt) fun k hk => ?_
  have := (h2.lt k hk).1
  omega
end Go.Proofs.YtffpmkgjnjdbaabGreatDoor

set_option linter.unusedVariables false
set_option linter.unusedSimpArgs false
namespace Go.Proofs.YtffpmkgjnjdbaabGreatDoor
open Go.RowKit

theorem insB_front {l : List Bn} {b : Bn} (h : ∀ x ∈ l, b.id < x.id) : insB l b = b :: l := by
  have := insB_at (l := l) (b := b) 0 (Nat.zero_le _) (fun j hj hj0 => by omega) (fun h0 h1 => by have := h l[0] (List.getElem_mem h0); omega)
  simpa using this
theorem addK_front {l : List Bn} {b : Bn} (hb : b.Ok) (h : ∀ x ∈ l, b.id < x.id) (hl : l.length < 12) : addK l b = 0 := by
  unfold addK
  rw [if_neg (by rw [(bnB_iff b).2 hb]; simp), findB_none (fun x hx => by have := h x hx; omega), if_neg (by simp), if_neg (by omega)]
theorem shelf_front {l : List Bn} (h : Shelf l) (j : Nat) (hj : j < l.length) : ∀ x ∈ l.drop (j + 1), l[j].id < x.id := by
  intro x hx
  obtain ⟨k, hk, rfl⟩ := List.getElem_of_mem hx
  rw [List.getElem_drop]
  simp at hk
  exact h.up j (j + 1 + k) hj (by omega) (by omega)
theorem store_new (w : World) : StoreAt (w.alloc (.cells #[.slice none 0 0, .string { data := #[] }] 107)) w.heap.size [] { data := #[] } := ⟨none, 0, Blk.new w _ _, World.ownsRow_nil _ _ _ _⟩
set_option maxHeartbeats 1000000 in
theorem New_at (w : World) :
    Calls Tryz.prog 33 #[] w fun e w' => e = .returned (.pointer (some ⟨w.heap.size, 0, none⟩)) ∧ w' = w.alloc (.cells #[.slice none 0 0, .string { data := #[] }] 107) := by
  go_enter Tryz.func33, Tryz.ntmps33
  go_wp2
  go_ret
  exact ⟨rfl, rfl⟩
set_option maxHeartbeats 2000000 in
set_option maxRecDepth 100000 in
theorem filled_any (l : List Bn) (v : Value) (w : World) (hg : GlobT w) (hp : GlobB w) (hs : Shelf l) (h12 : l.length ≤ 12) (h : Reads w v l.length (cellsB l)) :
    Calls Tryz.prog 17 #[v, .string rejB] w fun e w' => e = .returned (.tuple #[.pointer (some ⟨w.heap.size, 0, none⟩), .bool true]) ∧ StoreAt w' w.heap.size l (bsN [83, 76, 0, 17]) ∧ Below w.heap.size w w' := by
  obtain ⟨a, c, rfl⟩ := h.shape
  have HH := Hid.mk2 h
  have HG := Hid.mk2 hg
  have HP := Hid.mk2 hp
  have HS := Hid.mk2 hs
  have HST := Hid.mk2 (store_new w)
  have HB0 := Hid.mk2 (box3 w (.cells #[.slice none 0 0, .string { data := #[] }] 107))
  clear h hg hp hs
  go_enter Tryz.func17, Tryz.ntmps17
  go_wp2_with (go_at_call 33; refine (New_at _).mono ?_; rintro e _ ⟨rfl, rfl⟩)
  go_loopw [7] (fun vi wr => ∃ (j : Nat), j ≤ l.length ∧ vi = .int .i64 ((j : Int) - 1) ∧ StoreAt wr w.heap.size (l.drop j) { data := #[] } ∧ Below w.heap.size w wr) (fun i _ => (intOf i + 1).toNat)
  case atStart => exact ⟨l.length, Nat.le_refl _, by go_num, by rw [List.drop_length]; exact HST.out, HB0.out⟩
  case round =>
    obtain ⟨j, hj, rfl, hst, hbel⟩ := hrel
    have HQ := Hid.mk2 hst
    have HBL := Hid.mk2 hbel
    have hbs := hbel.size
    clear hst hbel
    by_cases hj0 : j = 0
    · subst hj0
      go_wp2_with (go_at_call 49; refine (Load_rej _ _ _ _ (HG.out.below HBL.out) (HP.out.below HBL.out) HQ.out).mono ?_; rintro e w2 ⟨rfl, hs2, hb2⟩; have H1 := Hid.mk2 hs2; have H2 := Hid.mk2 hb2; clear hs2 hb2)
      go_ret2
      exact ⟨rfl, by simpa using H1.out, HBL.out.trans (H2.out.below (Nat.le_refl _) hbs)⟩
    · obtain ⟨i, rfl⟩ : ∃ i, j = i + 1 := ⟨j - 1, by omega⟩
      have hil : i < l.length := by omega
      have hd : decide (0 ≤ (i : Int)) = true := by simp
      have hsub : ((i + 1 : Nat) : Int) - 1 = (i : Int) := by simp
      obtain ⟨g, o, cap, hcut, hcap, hgl, hc⟩ := HH.out.pos (by omega)
      cases hcut
      obtain ⟨c0, c1, c2, c3, c4⟩ := bin_cells hc i hil
      have e0 := (HBL.out.cell (p := ⟨g, o + i * 5, none⟩) hgl).trans c0
      have e1 := (HBL.out.cell (p := ⟨g, o + i * 5 + 1, none⟩) hgl).trans c1
      have e2 := (HBL.out.cell (p := ⟨g, o + i * 5 + 2, none⟩) hgl).trans c2
      have e3 := (HBL.out.cell (p := ⟨g, o + i * 5 + 3, none⟩) hgl).trans c3
      have e4 := (HBL.out.cell (p := ⟨g, o + i * 5 + 4, none⟩) hgl).trans c4
      have HK : Hid (addK (l.drop (i + 1)) l[i] = 0) := addK_front (HS.out.ok _ (List.getElem_mem hil)) (shelf_front HS.out i hil) (by simp; omega)
      have HI : Hid (insB (l.drop (i + 1)) l[i] = l.drop i) := by rw [Hid, insB_front (shelf_front HS.out i hil), ← drop_next hil]
      have hl100 : (l.drop (i + 1)).length ≤ 100 := by simp; omega
      generalize hx : l[i] = x at *
      clear hc c0 c1 c2 c3 c4 hx
      rw [hsub]
      go_wp2_with (go_at_call 31; refine (stAdd_any _ _ _ x _ HQ.out hl100).mono ?_; rintro e w2 ⟨rfl, hs2, hb2, _⟩; rw [HK.out] at hs2 ⊢; rw [if_pos rfl, HI.out] at hs2; have H1 := Hid.mk2 hs2; have H2 := Hid.mk2 hb2; clear hs2 hb2)
      go_roundw
      case rel => exact ⟨i, by omega, by go_num, H1.out, HBL.out.trans (H2.out.below (Nat.le_refl _) hbs)⟩
      case measure => simp [intOf]
end Go.Proofs.YtffpmkgjnjdbaabGreatDoor
