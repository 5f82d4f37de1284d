/-
  slotskeep.absent, slotskeep.wrong: what can't be done with a bin that is not there, and with one that is.
-/
import Derived.Test.YtjjbmbjmdgoofaaGreatDoorG46
import Derived.Test.YtjjbmbjmdgoofaaGreatDoorG49
import Derived.Test.YtjjbmbjmdgoofaaGreatDoorG48
set_option linter.unusedVariables false
set_option linter.unusedSimpArgs false
namespace Go.Proofs.YtjjbmbjmdgoofaaGreatDoor
open Go.RowKit Go.Deep
structure Sto (w wx : World) (sb : Nat) (bs : List Bn) (im : ByteArray) : Prop where
  st : StoreAt wx sb bs im
  bt : But sb w wx
theorem Sto.next {w wx w' : World} {sb : Nat} {bs : List Bn} {im : ByteArray} (h : Sto w wx sb bs im) (hs : StoreAt w' sb bs im ∧ But sb wx w') : Sto w w' sb bs im := ⟨hs.1, h.bt.trans hs.2⟩
theorem Sto.below {w wx w' : World} {sb : Nat} {bs : List Bn} {im : ByteArray} (h : Sto w wx sb bs im) (hb : Below wx.heap.size wx w') : Sto w w' sb bs im := ⟨h.st.below hb, h.bt.trans (But.of hb)⟩
theorem rem_no {bs : List Bn} {id : Int} {k : Nat} (hk : remK bs id = k) (h0 : k ≠ 0) (sb : Nat) (im : ByteArray) (w : World) (h : StoreAt w sb bs im) (hl : bs.length ≤ 100) :
    Calls Tryz.prog 45 #[.pointer (some ⟨sb, 0, none⟩), .int .i64 id] w fun e w' => e = .returned (.int .i64 k) ∧ StoreAt w' sb bs im ∧ But sb w w' := by
  refine (stRemove_any sb bs im id w h hl).mono ?_
  rintro e w' ⟨rfl, h1, h2, _⟩
  rw [hk] at h1 ⊢
  rw [if_neg h0] at h1
  exact ⟨rfl, h1, h2⟩
theorem put_no {bs : List Bn} {id n : Int} {k : Nat} (hk : putK bs id n = k) (h0 : k ≠ 0) (hn : In64 n) (sb : Nat) (im : ByteArray) (w : World) (h : StoreAt w sb bs im) (hl : bs.length ≤ 100) (hok : ∀ b ∈ bs, b.Ok) :
    Calls Tryz.prog 46 #[.pointer (some ⟨sb, 0, none⟩), .int .i64 id, .int .i64 n] w fun e w' => e = .returned (.int .i64 k) ∧ StoreAt w' sb bs im ∧ But sb w w' := by
  refine (stPut_any sb bs im id n hn w h hl hok).mono ?_
  rintro e w' ⟨rfl, h1, h2, _⟩
  rw [hk] at h1 ⊢
  rw [if_neg h0] at h1
  exact ⟨rfl, h1, h2⟩
theorem pick_no {bs : List Bn} {id n : Int} {k : Nat} (hk : pickK bs id n = k) (h0 : k ≠ 0) (hn : In64 n) (sb : Nat) (im : ByteArray) (w : World) (h : StoreAt w sb bs im) (hl : bs.length ≤ 100) (hok : ∀ b ∈ bs, b.Ok) :
    Calls Tryz.prog 47 #[.pointer (some ⟨sb, 0, none⟩), .int .i64 id, .int .i64 n] w fun e w' => e = .returned (.int .i64 k) ∧ StoreAt w' sb bs im ∧ But sb w w' := by
  refine (stPick_any sb bs im id n hn w h hl hok).mono ?_
  rintro e w' ⟨rfl, h1, h2, _⟩
  rw [hk] at h1 ⊢
  rw [if_neg h0] at h1
  exact ⟨rfl, h1, h2⟩
theorem add_no {bs : List Bn} {b : Bn} {k : Nat} (hk : addK bs b = k) (h0 : k ≠ 0) (sb : Nat) (im : ByteArray) (w : World) (h : StoreAt w sb bs im) (hl : bs.length ≤ 100) :
    Calls Tryz.prog 25 #[.pointer (some ⟨sb, 0, none⟩), bnA b] w fun e w' => e = .returned (.int .i64 k) ∧ StoreAt w' sb bs im ∧ But sb w w' := by
  refine (stAdd_any sb bs im b w h hl).mono ?_
  rintro e w' ⟨rfl, h1, h2, _⟩
  rw [hk] at h1 ⊢
  rw [if_neg h0] at h1
  exact ⟨rfl, h1, h2⟩
set_option maxHeartbeats 2000000 in
set_option maxRecDepth 100000 in
theorem absent_any (sb : Nat) (bs : List Bn) (im : ByteArray) (id : Int) (hn : findB bs id = none) (w : World) (h : StoreAt w sb bs im) (hl : bs.length ≤ 100) (hok : ∀ b ∈ bs, b.Ok) :
    Calls Tryz.prog 23 #[.pointer (some ⟨sb, 0, none⟩), .int .i64 id] w fun e w' => e = .returned (.bool true) ∧ StoreAt w' sb bs im ∧ But sb w w' := by
  have H1 : Hid (remK bs id = 12) := by rw [Hid, remK, hn]
  have H2 : Hid (∀ n, putK bs id n = 12) := fun n => by rw [putK, hn]
  have H3 : Hid (∀ n, pickK bs id n = 12) := fun n => by rw [pickK, hn]
  have HQ : Hid (Sto w w sb bs im) := ⟨h, But.refl _ _⟩
  have HL := Hid.mk2 hl
  have HO := Hid.mk2 hok
  clear hn h hl hok
  go_enter Tryz.func23, Tryz.ntmps23
  go_wp2_with (first
    | (go_at_call 45; refine (rem_no H1.out (by decide) sb im _ HQ.out.st HL.out).mono ?_; rintro e w1 ⟨rfl, hs1⟩; replace HQ := Hid.mk2 (HQ.out.next hs1); clear hs1)
    | (go_at_call_of 46 (Value.int IntKind.i64 1); refine (put_no (H2.out 1) (by decide) (by unfold In64; omega) sb im _ HQ.out.st HL.out HO.out).mono ?_; rintro e w2 ⟨rfl, hs2⟩; replace HQ := Hid.mk2 (HQ.out.next hs2); clear hs2)
    | (go_at_call_of 46 (Value.int IntKind.i64 0); refine (put_no (H2.out 0) (by decide) (by unfold In64; omega) sb im _ HQ.out.st HL.out HO.out).mono ?_; rintro e w3 ⟨rfl, hs3⟩; replace HQ := Hid.mk2 (HQ.out.next hs3); clear hs3)
    | (go_at_call 47; refine (pick_no (H3.out (-1)) (by decide) (by unfold In64; omega) sb im _ HQ.out.st HL.out HO.out).mono ?_; rintro e w4 ⟨rfl, hs4⟩; replace HQ := Hid.mk2 (HQ.out.next hs4); clear hs4))
  go_ret
  exact ⟨by simp, HQ.out.st, HQ.out.bt⟩
structure Wro (w wx : World) (sb : Nat) (bs : List Bn) (im : ByteArray) (b : Bn) : Prop where
  s : Sto w wx sb bs im
  bx : Blk wx w.heap.size #[.int .i64 b.id, .int .i64 b.zone, .int .i64 b.cap, .int .i64 b.used, .int .i64 b.has] 31
  lt : sb < w.heap.size
theorem Wro.next {w wx w' : World} {sb : Nat} {bs : List Bn} {im : ByteArray} {b : Bn} (h : Wro w wx sb bs im b) (hs : StoreAt w' sb bs im ∧ But sb wx w') : Wro w w' sb bs im b := ⟨h.s.next hs, h.bx.but hs.2 (by have := h.lt; omega), h.lt⟩
theorem Wro.start {w : World} {sb : Nat} {bs : List Bn} {im : ByteArray} (h : StoreAt w sb bs im) (b : Bn) : Wro w (w.alloc (.cells #[.int .i64 b.id, .int .i64 b.zone, .int .i64 b.cap, .int .i64 b.used, .int .i64 b.has] 31)) sb bs im b :=
  ⟨⟨h.below (box3 w _), But.of (box3 w _)⟩, Blk.new w _ _, h.lt⟩
set_option maxHeartbeats 4000000 in
set_option maxRecDepth 100000 in
theorem wrong_any (sb : Nat) (bs : List Bn) (im : ByteArray) (b : Bn) (hf : findB bs b.id = some b) (hb : b.Ok) (w : World) (h : StoreAt w sb bs im) (hl : bs.length ≤ 100) (hok : ∀ b ∈ bs, b.Ok) :
    Calls Tryz.prog 24 #[.pointer (some ⟨sb, 0, none⟩), bnA b] w fun e w' => e = .returned (.bool true) ∧ StoreAt w' sb bs im ∧ But sb w w' := by
  obtain ⟨o1, o2, o3, o4, o5⟩ := hb
  have HA : Hid (addK bs b = 10) := by rw [Hid, addK, if_neg (by rw [(bnB_iff b).2 ⟨o1, o2, o3, o4, o5⟩]; decide), if_pos (by rw [hf]; rfl)]
  obtain ⟨m1, hm1⟩ : ∃ m1, m1 = b.cap - b.used + 1 := ⟨_, rfl⟩
  obtain ⟨m2, hm2⟩ : ∃ m2, m2 = b.used + 1 := ⟨_, rfl⟩
  have P0 : Hid (putK bs b.id 0 = 13) := by rw [Hid, putK, hf]; simp only; rw [if_pos (by omega)]
  have P1 : Hid (putK bs b.id (-9223372036854775808) = 13) := by rw [Hid, putK, hf]; simp only; rw [if_pos (by omega)]
  have P2 : Hid (putK bs b.id m1 = 11) := by rw [Hid, putK, hf]; simp only; rw [if_neg (by omega), if_pos (by omega)]
  have P3 : Hid (putK bs b.id 9223372036854775807 = 11) := by rw [Hid, putK, hf]; simp only; rw [if_neg (by omega), if_pos (by omega)]
  have K0 : Hid (pickK bs b.id 0 = 13) := by rw [Hid, pickK, hf]; simp only; rw [if_pos (by omega)]
  have K1 : Hid (pickK bs b.id (-1) = 13) := by rw [Hid, pickK, hf]; simp only; rw [if_pos (by omega)]
  have K2 : Hid (pickK bs b.id m2 = 14) := by rw [Hid, pickK, hf]; simp only; rw [if_neg (by omega), if_pos (by omega)]
  have K3 : Hid (pickK bs b.id 9223372036854775807 = 14) := by rw [Hid, pickK, hf]; simp only; rw [if_neg (by omega), if_pos (by omega)]
  have R0 : Hid (0 < b.used → remK bs b.id = 14) := fun h0 => by rw [remK, hf]; simp only; rw [if_pos h0]
  have I1 : Hid (In64 m1) := by rw [Hid]; unfold In64; omega
  have I2 : Hid (In64 m2) := by rw [Hid]; unfold In64; omega
  have HQ := Hid.mk2 (Wro.start h b)
  have HL := Hid.mk2 hl
  have HO := Hid.mk2 hok
  have hlt := h.lt
  unfold bnA
  obtain ⟨bi, bz, bc, bu, bh⟩ := b
  simp only at o1 o2 o3 o4 o5 hm1 hm2 P0 P1 P2 P3 K0 K1 K2 K3 R0 HQ ⊢
  have e1 : wrap64 (bc - bu) = m1 - 1 := by rw [IntWalk.wrap64_in _ ⟨by omega, by omega⟩]; omega
  have e2 : wrap64 (m1 - 1 + 1) = m1 := by rw [IntWalk.wrap64_in _ ⟨by omega, by omega⟩]; omega
  have e3 : wrap64 (bu + 1) = m2 := by rw [IntWalk.wrap64_in _ ⟨by omega, by omega⟩]; omega
  have e4 : IntKind.i64.wrap (bc - bu) = m1 - 1 := by rw [IntWalk.i64_in _ ⟨by omega, by omega⟩]; omega
  have e5 : IntKind.i64.wrap (m1 - 1 + 1) = m1 := by rw [IntWalk.i64_in _ ⟨by omega, by omega⟩]; omega
  have e6 : IntKind.i64.wrap (bu + 1) = m2 := by rw [IntWalk.i64_in _ ⟨by omega, by omega⟩]; omega
  have e7 : IntKind.i64.wrap (bc - bu + 1) = m1 := by rw [IntWalk.i64_in _ ⟨by omega, by omega⟩]; omega
  have e8 : bc - bu + 1 = m1 := by omega
  have e9 : bu + 1 = m2 := by omega
  have e10 : wrap64 m1 = m1 := IntWalk.wrap64_in _ ⟨by omega, by omega⟩
  have e11 : wrap64 m2 = m2 := IntWalk.wrap64_in _ ⟨by omega, by omega⟩
  have c0 := HQ.out.bx.cell
  clear h hl hok hf o1 o2 o3 o4 o5 hm1 hm2
  have p1 : Hid True := Hid.mk2 trivial
  have p2 : Hid True := Hid.mk2 trivial
  have p3 : Hid True := Hid.mk2 trivial
  have p4 : Hid True := Hid.mk2 trivial
  have k1 : Hid True := Hid.mk2 trivial
  have k2 : Hid True := Hid.mk2 trivial
  have k3 : Hid True := Hid.mk2 trivial
  have k4 : Hid True := Hid.mk2 trivial
  by_cases hu : 0 < bu
  · have hg : decide (0 < bu) = true := decide_eq_true hu
    have HR := Hid.mk2 (R0.out hu)
    clear hu
    go_enter Tryz.func24, Tryz.ntmps24
    go_wp2_with (first
      | (go_at_call 25; refine (add_no (b := ⟨bi, bz, bc, bu, bh⟩) HA.out (by decide) sb im _ HQ.out.s.st HL.out).mono ?_; rintro e w1 ⟨rfl, hs⟩; replace HQ := Hid.mk2 (HQ.out.next hs); clear hs c0; have c0 := HQ.out.bx.cell)
      | (go_at_call 46; have up1 := p1; clear p1 up1; refine (put_no P0.out (by decide) (by unfold In64; omega) sb im _ HQ.out.s.st HL.out HO.out).mono ?_; rintro e w2 ⟨rfl, hs⟩; replace HQ := Hid.mk2 (HQ.out.next hs); clear hs c0; have c0 := HQ.out.bx.cell)
      | (go_at_call 46; have up2 := p2; clear p2 up2; refine (put_no P1.out (by decide) (by unfold In64; omega) sb im _ HQ.out.s.st HL.out HO.out).mono ?_; rintro e w3 ⟨rfl, hs⟩; replace HQ := Hid.mk2 (HQ.out.next hs); clear hs c0; have c0 := HQ.out.bx.cell)
      | (go_at_call 46; have up3 := p3; clear p3 up3; refine (put_no P2.out (by decide) I1.out sb im _ HQ.out.s.st HL.out HO.out).mono ?_; rintro e w4 ⟨rfl, hs⟩; replace HQ := Hid.mk2 (HQ.out.next hs); clear hs c0; have c0 := HQ.out.bx.cell)
      | (go_at_call 46; have up4 := p4; clear p4 up4; refine (put_no P3.out (by decide) (by unfold In64; omega) sb im _ HQ.out.s.st HL.out HO.out).mono ?_; rintro e w5 ⟨rfl, hs⟩; replace HQ := Hid.mk2 (HQ.out.next hs); clear hs c0; have c0 := HQ.out.bx.cell)
      | (go_at_call 47; have uk1 := k1; clear k1 uk1; refine (pick_no K0.out (by decide) (by unfold In64; omega) sb im _ HQ.out.s.st HL.out HO.out).mono ?_; rintro e w6 ⟨rfl, hs⟩; replace HQ := Hid.mk2 (HQ.out.next hs); clear hs c0; have c0 := HQ.out.bx.cell)
      | (go_at_call 47; have uk2 := k2; clear k2 uk2; refine (pick_no K1.out (by decide) (by unfold In64; omega) sb im _ HQ.out.s.st HL.out HO.out).mono ?_; rintro e w7 ⟨rfl, hs⟩; replace HQ := Hid.mk2 (HQ.out.next hs); clear hs c0; have c0 := HQ.out.bx.cell)
      | (go_at_call 47; have uk3 := k3; clear k3 uk3; refine (pick_no K2.out (by decide) I2.out sb im _ HQ.out.s.st HL.out HO.out).mono ?_; rintro e w8 ⟨rfl, hs⟩; replace HQ := Hid.mk2 (HQ.out.next hs); clear hs c0; have c0 := HQ.out.bx.cell)
      | (go_at_call 47; have uk4 := k4; clear k4 uk4; refine (pick_no K3.out (by decide) (by unfold In64; omega) sb im _ HQ.out.s.st HL.out HO.out).mono ?_; rintro e w9 ⟨rfl, hs⟩; replace HQ := Hid.mk2 (HQ.out.next hs); clear hs c0; have c0 := HQ.out.bx.cell)
      | (go_at_call 45; refine (rem_no HR.out (by decide) sb im _ HQ.out.s.st HL.out).mono ?_; rintro e w10 ⟨rfl, hs⟩; replace HQ := Hid.mk2 (HQ.out.next hs); clear hs c0; have c0 := HQ.out.bx.cell))
    go_ret
    exact ⟨by simp, HQ.out.s.st, HQ.out.s.bt⟩
  · have hg : decide (0 < bu) = false := decide_eq_false hu
    clear hu
    go_enter Tryz.func24, Tryz.ntmps24
    go_wp2_with (first
      | (go_at_call 25; refine (add_no (b := ⟨bi, bz, bc, bu, bh⟩) HA.out (by decide) sb im _ HQ.out.s.st HL.out).mono ?_; rintro e w1 ⟨rfl, hs⟩; replace HQ := Hid.mk2 (HQ.out.next hs); clear hs c0; have c0 := HQ.out.bx.cell)
      | (go_at_call 46; have up1 := p1; clear p1 up1; refine (put_no P0.out (by decide) (by unfold In64; omega) sb im _ HQ.out.s.st HL.out HO.out).mono ?_; rintro e w2 ⟨rfl, hs⟩; replace HQ := Hid.mk2 (HQ.out.next hs); clear hs c0; have c0 := HQ.out.bx.cell)
      | (go_at_call 46; have up2 := p2; clear p2 up2; refine (put_no P1.out (by decide) (by unfold In64; omega) sb im _ HQ.out.s.st HL.out HO.out).mono ?_; rintro e w3 ⟨rfl, hs⟩; replace HQ := Hid.mk2 (HQ.out.next hs); clear hs c0; have c0 := HQ.out.bx.cell)
      | (go_at_call 46; have up3 := p3; clear p3 up3; refine (put_no P2.out (by decide) I1.out sb im _ HQ.out.s.st HL.out HO.out).mono ?_; rintro e w4 ⟨rfl, hs⟩; replace HQ := Hid.mk2 (HQ.out.next hs); clear hs c0; have c0 := HQ.out.bx.cell)
      | (go_at_call 46; have up4 := p4; clear p4 up4; refine (put_no P3.out (by decide) (by unfold In64; omega) sb im _ HQ.out.s.st HL.out HO.out).mono ?_; rintro e w5 ⟨rfl, hs⟩; replace HQ := Hid.mk2 (HQ.out.next hs); clear hs c0; have c0 := HQ.out.bx.cell)
      | (go_at_call 47; have uk1 := k1; clear k1 uk1; refine (pick_no K0.out (by decide) (by unfold In64; omega) sb im _ HQ.out.s.st HL.out HO.out).mono ?_; rintro e w6 ⟨rfl, hs⟩; replace HQ := Hid.mk2 (HQ.out.next hs); clear hs c0; have c0 := HQ.out.bx.cell)
      | (go_at_call 47; have uk2 := k2; clear k2 uk2; refine (pick_no K1.out (by decide) (by unfold In64; omega) sb im _ HQ.out.s.st HL.out HO.out).mono ?_; rintro e w7 ⟨rfl, hs⟩; replace HQ := Hid.mk2 (HQ.out.next hs); clear hs c0; have c0 := HQ.out.bx.cell)
      | (go_at_call 47; have uk3 := k3; clear k3 uk3; refine (pick_no K2.out (by decide) I2.out sb im _ HQ.out.s.st HL.out HO.out).mono ?_; rintro e w8 ⟨rfl, hs⟩; replace HQ := Hid.mk2 (HQ.out.next hs); clear hs c0; have c0 := HQ.out.bx.cell)
      | (go_at_call 47; have uk4 := k4; clear k4 uk4; refine (pick_no K3.out (by decide) (by unfold In64; omega) sb im _ HQ.out.s.st HL.out HO.out).mono ?_; rintro e w9 ⟨rfl, hs⟩; replace HQ := Hid.mk2 (HQ.out.next hs); clear hs c0; have c0 := HQ.out.bx.cell))
    go_ret
    exact ⟨by simp, HQ.out.s.st, HQ.out.s.bt⟩
end Go.Proofs.YtjjbmbjmdgoofaaGreatDoor
namespace Go.Proofs.YtjjbmbjmdgoofaaGreatDoor
open Go.RowKit Go.Deep
set_option maxHeartbeats 2000000 in
set_option maxRecDepth 100000 in
theorem Rank_item (x : Itm) (hx : itmB x = false) (sb : Nat) (bs : List Bn) (im : ByteArray) (him : im.toList.isEmpty = false) (k : Int)  (w : World) (h : StoreAt w sb bs im) (hg : GlobY w) :
    Calls Tryz.prog 17 #[.pointer (some ⟨sb, 0, none⟩), itmA x, .int .i64 k] w fun e w' => Below w.heap.size w w' ∧ e = .returned (.agg #[.int .i64 8, .int .i64 0, .int .i64 0, .slice none 0 0]) := by
  have HM := Hid.mk2 (RSt2.start h hg x)
  obtain ⟨a, c, h1, h2⟩ := h.ok
  have c0 := h1.cell 0
  have c1 := h1.cell 1
  have hlt := h1.lt
  simp only [List.getElem?_toArray, List.getElem?_cons_zero, List.getElem?_cons_succ] at c0 c1
  have HXB := Hid.mk2 hx
  clear hx
  clear h hg h1 h2
  unfold itmA
  go_enter Tryz.func17, Tryz.ntmps17
  go_wp2_with (go_at_call 36; refine (pIsItem_any x _).mono ?_; rintro e w1 ⟨rfl, hb1⟩; rw [HXB.out]; replace HM := Hid.mk2 (HM.out.below hb1); clear hb1 c0 c1; have r0 := HM.out.rk.cell 0; have r1 := HM.out.rk.cell 1; have r2 := HM.out.rk.cell 2; have r3 := HM.out.rk.cell 3; have f0 := HM.out.rk.free 0; have f1 := HM.out.rk.free 1; have f2 := HM.out.rk.free 2; have f3 := HM.out.rk.free 3; have hlr := HM.out.rk.lt)
  have hfb := (((HM.out.rk.set 0 (.int .i64 8)).set 1 (.int .i64 0)).set 2 (.int .i64 0)).set 3 (.slice none 0 0)
  have g0 := hfb.cell 0
  have g1 := hfb.cell 1
  have g2 := hfb.cell 2
  have g3 := hfb.cell 3
  refine bodyPost_ret (v := .agg #[.int .i64 8, .int .i64 0, .int .i64 0, .slice none 0 0]) (by simp [results, Tryz.results17, go_sem, g0, g1, g2, g3]) rfl ⟨?_, rfl⟩
  exact sets4 HM.out.bl (by omega) _ _ _ _
set_option maxHeartbeats 2000000 in
set_option maxRecDepth 100000 in
theorem Rank_arg (x : Itm) (hx : itmB x = true) (sb : Nat) (bs : List Bn) (im : ByteArray) (him : im.toList.isEmpty = false) (k : Int) (hk : k < 0) (w : World) (h : StoreAt w sb bs im) (hg : GlobY w) :
    Calls Tryz.prog 17 #[.pointer (some ⟨sb, 0, none⟩), itmA x, .int .i64 k] w fun e w' => Below w.heap.size w w' ∧ e = .returned (.agg #[.int .i64 13, .int .i64 0, .int .i64 0, .slice none 0 0]) := by
  have HM := Hid.mk2 (RSt2.start h hg x)
  obtain ⟨a, c, h1, h2⟩ := h.ok
  have c0 := h1.cell 0
  have c1 := h1.cell 1
  have hlt := h1.lt
  simp only [List.getElem?_toArray, List.getElem?_cons_zero, List.getElem?_cons_succ] at c0 c1
  have HXB := Hid.mk2 hx
  have ek : decide (k < 0) = true := decide_eq_true hk
  clear hx hk
  clear h hg h1 h2
  unfold itmA
  go_enter Tryz.func17, Tryz.ntmps17
  go_wp2_with (go_at_call 36; refine (pIsItem_any x _).mono ?_; rintro e w1 ⟨rfl, hb1⟩; rw [HXB.out]; replace HM := Hid.mk2 (HM.out.below hb1); clear hb1 c0 c1; have r0 := HM.out.rk.cell 0; have r1 := HM.out.rk.cell 1; have r2 := HM.out.rk.cell 2; have r3 := HM.out.rk.cell 3; have f0 := HM.out.rk.free 0; have f1 := HM.out.rk.free 1; have f2 := HM.out.rk.free 2; have f3 := HM.out.rk.free 3; have hlr := HM.out.rk.lt)
  have hfb := (((HM.out.rk.set 0 (.int .i64 13)).set 1 (.int .i64 0)).set 2 (.int .i64 0)).set 3 (.slice none 0 0)
  have g0 := hfb.cell 0
  have g1 := hfb.cell 1
  have g2 := hfb.cell 2
  have g3 := hfb.cell 3
  refine bodyPost_ret (v := .agg #[.int .i64 13, .int .i64 0, .int .i64 0, .slice none 0 0]) (by simp [results, Tryz.results17, go_sem, g0, g1, g2, g3]) rfl ⟨?_, rfl⟩
  exact sets4 HM.out.bl (by omega) _ _ _ _
theorem sim_img : IsImg (bsN [83, 76, 0, 17]) := rej_img (sits_bsN [83, 76, 0, 17] (by decide)) (bsN_len _)
theorem Run_item (x : Itm) (y : Bn) (hx : itmB x = false) (w : World) (hg : GlobP w) :
    Calls Tryz.prog 44 #[.string (bsN [83, 76, 0, 17]), itmA x, bnA y] w fun e w' => Below w.heap.size w w' ∧ e = .returned (.tuple #[.agg #[.int .i64 0, .int .i64 0, .int .i64 0], .int .i64 8]) := by
  refine (pRun_any _ x y w hg).mono ?_
  rintro e w' ⟨hb, r, k, ho, rfl⟩
  rcases ho with ⟨a, _⟩ | ⟨_, _, rfl, rfl⟩ | ⟨_, a, _⟩ | ⟨_, a, _⟩
  · exact absurd sim_img a
  · exact ⟨hb, rfl⟩
  · rw [hx] at a; cases a
  · rw [hx] at a; cases a
theorem Run_bin (x : Itm) (y : Bn) (hx : itmB x = true) (hy : bnB y = false) (w : World) (hg : GlobP w) :
    Calls Tryz.prog 44 #[.string (bsN [83, 76, 0, 17]), itmA x, bnA y] w fun e w' => Below w.heap.size w w' ∧ e = .returned (.tuple #[.agg #[.int .i64 0, .int .i64 0, .int .i64 0], .int .i64 9]) := by
  refine (pRun_any _ x y w hg).mono ?_
  rintro e w' ⟨hb, r, k, ho, rfl⟩
  rcases ho with ⟨a, _⟩ | ⟨_, a, _⟩ | ⟨_, _, _, rfl, rfl⟩ | ⟨_, _, a, _⟩
  · exact absurd sim_img a
  · rw [hx] at a; cases a
  · exact ⟨hb, rfl⟩
  · rw [hy] at a; cases a
theorem below7 {P : Nat → Prop} (h0 : P 0) (h1 : P 1) (h2 : P 2) (h3 : P 3) (h4 : P 4) (h5 : P 5) (h6 : P 6) : ∀ i, i < 7 → P i := fun i hi => by
  match i, hi with
  | 0, _ => exact h0
  | 1, _ => exact h1
  | 2, _ => exact h2
  | 3, _ => exact h3
  | 4, _ => exact h4
  | 5, _ => exact h5
  | 6, _ => exact h6
theorem below11 {P : Nat → Prop} (h0 : P 0) (h1 : P 1) (h2 : P 2) (h3 : P 3) (h4 : P 4) (h5 : P 5) (h6 : P 6) (h7 : P 7) (h8 : P 8) (h9 : P 9) (h10 : P 10) : ∀ i, i < 11 → P i := fun i hi => by
  match i, hi with
  | 0, _ => exact h0
  | 1, _ => exact h1
  | 2, _ => exact h2
  | 3, _ => exact h3
  | 4, _ => exact h4
  | 5, _ => exact h5
  | 6, _ => exact h6
  | 7, _ => exact h7
  | 8, _ => exact h8
  | 9, _ => exact h9
  | 10, _ => exact h10
def strI (i : Nat) : Itm := ([⟨0, 0, 0⟩, ⟨1001, 0, 0⟩, ⟨1, (-1), 0⟩, ⟨1, 1001, 0⟩, ⟨1, 0, 3⟩, ⟨1, 0, (-1)⟩, ⟨(-9223372036854775808), 9223372036854775807, (-9223372036854775808)⟩] : List Itm).getD i ⟨0, 0, 0⟩
def strB (i : Nat) : Bn := ([⟨(-1), 0, 1, 0, 0⟩, ⟨1001, 0, 1, 0, 0⟩, ⟨999, 0, 0, 0, 0⟩, ⟨999, 0, 1001, 0, 0⟩, ⟨999, 0, 5, 6, 0⟩, ⟨999, 0, 5, (-1), 0⟩, ⟨999, 10, 5, 0, 0⟩, ⟨999, (-1), 5, 0, 0⟩, ⟨999, 0, 5, 0, 3⟩, ⟨999, 0, 5, 0, (-1)⟩, ⟨999, 0, 9223372036854775807, 9223372036854775807, 0⟩] : List Bn).getD i ⟨0, 0, 0, 0, 0⟩
def strIs : Array Value := #[.int .i64 0, .int .i64 0, .int .i64 0, .int .i64 1001, .int .i64 0, .int .i64 0, .int .i64 1, .int .i64 (-1), .int .i64 0, .int .i64 1, .int .i64 1001, .int .i64 0, .int .i64 1, .int .i64 0, .int .i64 3, .int .i64 1, .int .i64 0, .int .i64 (-1), .int .i64 (-9223372036854775808), .int .i64 9223372036854775807, .int .i64 (-9223372036854775808)]
def strBs : Array Value := #[.int .i64 (-1), .int .i64 0, .int .i64 1, .int .i64 0, .int .i64 0, .int .i64 1001, .int .i64 0, .int .i64 1, .int .i64 0, .int .i64 0, .int .i64 999, .int .i64 0, .int .i64 0, .int .i64 0, .int .i64 0, .int .i64 999, .int .i64 0, .int .i64 1001, .int .i64 0, .int .i64 0, .int .i64 999, .int .i64 0, .int .i64 5, .int .i64 6, .int .i64 0, .int .i64 999, .int .i64 0, .int .i64 5, .int .i64 (-1), .int .i64 0, .int .i64 999, .int .i64 10, .int .i64 5, .int .i64 0, .int .i64 0, .int .i64 999, .int .i64 (-1), .int .i64 5, .int .i64 0, .int .i64 0, .int .i64 999, .int .i64 0, .int .i64 5, .int .i64 0, .int .i64 3, .int .i64 999, .int .i64 0, .int .i64 5, .int .i64 0, .int .i64 (-1), .int .i64 999, .int .i64 0, .int .i64 9223372036854775807, .int .i64 9223372036854775807, .int .i64 0]
theorem strI_no : ∀ i, i < 7 → itmB (strI i) = false := below7 (by decide) (by decide) (by decide) (by decide) (by decide) (by decide) (by decide)
theorem strB_no : ∀ i, i < 11 → bnB (strB i) = false := below11 (by decide) (by decide) (by decide) (by decide) (by decide) (by decide) (by decide) (by decide) (by decide) (by decide) (by decide)
theorem strIs_at : ∀ i, i < 7 → strIs[i * 3]? = some (.int .i64 (strI i).size) ∧ strIs[i * 3 + 1]? = some (.int .i64 (strI i).speed) ∧ strIs[i * 3 + 2]? = some (.int .i64 (strI i).need) := below7 ⟨rfl, rfl, rfl⟩ ⟨rfl, rfl, rfl⟩ ⟨rfl, rfl, rfl⟩ ⟨rfl, rfl, rfl⟩ ⟨rfl, rfl, rfl⟩ ⟨rfl, rfl, rfl⟩ ⟨rfl, rfl, rfl⟩
theorem strBs_at : ∀ i, i < 11 → strBs[i * 5]? = some (.int .i64 (strB i).id) ∧ strBs[i * 5 + 1]? = some (.int .i64 (strB i).zone) ∧ strBs[i * 5 + 2]? = some (.int .i64 (strB i).cap) ∧ strBs[i * 5 + 3]? = some (.int .i64 (strB i).used) ∧ strBs[i * 5 + 4]? = some (.int .i64 (strB i).has) := below11 ⟨rfl, rfl, rfl, rfl, rfl⟩ ⟨rfl, rfl, rfl, rfl, rfl⟩ ⟨rfl, rfl, rfl, rfl, rfl⟩ ⟨rfl, rfl, rfl, rfl, rfl⟩ ⟨rfl, rfl, rfl, rfl, rfl⟩ ⟨rfl, rfl, rfl, rfl, rfl⟩ ⟨rfl, rfl, rfl, rfl, rfl⟩ ⟨rfl, rfl, rfl, rfl, rfl⟩ ⟨rfl, rfl, rfl, rfl, rfl⟩ ⟨rfl, rfl, rfl, rfl, rfl⟩ ⟨rfl, rfl, rfl, rfl, rfl⟩
end Go.Proofs.YtjjbmbjmdgoofaaGreatDoor
