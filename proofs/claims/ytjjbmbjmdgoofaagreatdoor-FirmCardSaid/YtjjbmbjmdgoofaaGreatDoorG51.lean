/-
  slotskeep.strange: nothing is done with an item or a bin that is none.
-/
import Derived.Test.YtjjbmbjmdgoofaaGreatDoorG50
import Derived.Test.YtjjbmbjmdgoofaaGreatDoorG44
set_option linter.unusedVariables false
set_option linter.unusedSimpArgs false
namespace Go.Proofs.YtjjbmbjmdgoofaaGreatDoor
open Go.RowKit Go.Deep
theorem im_step {w wx w' : World} (h : Below w.heap.size w wx) (hb : Below wx.heap.size wx w') : Below w.heap.size w w' := h.trans (hb.mono h.size)
theorem im_dr2 {w wx : World} (h : Below w.heap.size w wx) : Below w.heap.size w wx.drew := below_drewN h 1
theorem im_al {w wx : World} (h : Below w.heap.size w wx) (o : Obj) : Below w.heap.size w (wx.alloc o) := h.alloc h.size o
theorem im_set {w wx : World} {b : Nat} (h : Below w.heap.size w wx) (i : Nat) (v : Value) (hb : w.heap.size ≤ b) : Below w.heap.size w (wx.setCell ⟨b, i, none⟩ v) := h.setCell (p := ⟨b, i, none⟩) hb v
structure SgA (w0 w wx : World) (sb : Nat) (bs : List Bn) (im : ByteArray) : Prop where
  s : Sto w wx sb bs im
  h0 : w0.heap.size ≤ sb
  hb : Below w0.heap.size w0 w
  hg : GlobP w0
theorem SgA.gp {w0 w wx : World} {sb : Nat} {bs : List Bn} {im : ByteArray} (h : SgA w0 w wx sb bs im) : GlobP wx := h.hg.below (h.hb.trans (h.s.bt.below h.h0 h.hb.size))
theorem SgA.below {w0 w wx w' : World} {sb : Nat} {bs : List Bn} {im : ByteArray} (h : SgA w0 w wx sb bs im) (hb : Below wx.heap.size wx w') : SgA w0 w w' sb bs im := ⟨h.s.below hb, h.h0, h.hb, h.hg⟩
theorem SgA.next {w0 w wx w' : World} {sb : Nat} {bs : List Bn} {im : ByteArray} (h : SgA w0 w wx sb bs im) (hs : StoreAt w' sb bs im ∧ But sb wx w') : SgA w0 w w' sb bs im := ⟨h.s.next hs, h.h0, h.hb, h.hg⟩
structure SgI (w0 w wx : World) (sb : Nat) (bs : List Bn) (im : ByteArray) : Prop where
  a : SgA w0 w wx sb bs im
  li : Blk wx w.heap.size strIs 28
  bb : Blk wx (w.heap.size + 1) #[.int .i64 1, .int .i64 0, .int .i64 1, .int .i64 0, .int .i64 0] 31
theorem SgI.below {w0 w wx w' : World} {sb : Nat} {bs : List Bn} {im : ByteArray} (h : SgI w0 w wx sb bs im) (hb : Below wx.heap.size wx w') : SgI w0 w w' sb bs im := ⟨h.a.below hb, h.li.below hb h.li.lt, h.bb.below hb h.bb.lt⟩
theorem SgI.start {w0 w : World} {sb : Nat} {bs : List Bn} {im : ByteArray} (h : SgA w0 w w sb bs im) : SgI w0 w ((w.alloc (.cells strIs 28)).alloc (.cells #[.int .i64 1, .int .i64 0, .int .i64 1, .int .i64 0, .int .i64 0] 31)) sb bs im := by
  have a2 := Blk.new (w.alloc (.cells strIs 28)) #[.int .i64 1, .int .i64 0, .int .i64 1, .int .i64 0, .int .i64 0] 31
  rw [show (w.alloc (.cells strIs 28)).heap.size = w.heap.size + 1 by simp] at a2
  exact ⟨(h.below (box3 w _)).below (box3 _ _), (Blk.new w _ _).alloc _, a2⟩
structure SgB (w0 w wx : World) (sb lb : Nat) (bs : List Bn) (im : ByteArray) : Prop where
  a : SgA w0 w wx sb bs im
  ll : Blk wx lb strBs 31
  ne : lb ≠ sb
theorem SgB.below {w0 w wx w' : World} {sb lb : Nat} {bs : List Bn} {im : ByteArray} (h : SgB w0 w wx sb lb bs im) (hb : Below wx.heap.size wx w') : SgB w0 w w' sb lb bs im := ⟨h.a.below hb, h.ll.below hb h.ll.lt, h.ne⟩
theorem SgB.next {w0 w wx w' : World} {sb lb : Nat} {bs : List Bn} {im : ByteArray} (h : SgB w0 w wx sb lb bs im) (hs : StoreAt w' sb bs im ∧ But sb wx w') : SgB w0 w w' sb lb bs im := ⟨h.a.next hs, h.ll.but hs.2 h.ne, h.ne⟩
theorem SgB.start {w0 w wx : World} {sb : Nat} {bs : List Bn} {im : ByteArray} (h : SgA w0 w wx sb bs im) : SgB w0 w (wx.alloc (.cells strBs 31)) sb wx.heap.size bs im :=
  ⟨h.below (box3 wx _), Blk.new wx _ _, by have := h.s.st.lt; omega⟩
set_option maxHeartbeats 8000000 in
set_option maxRecDepth 100000 in
theorem strange_any (sb : Nat) (bs : List Bn) (im : ByteArray) (him : im.toList.isEmpty = false) (hl : bs.length ≤ 100) (w0 w : World) (h0 : w0.heap.size ≤ sb) (hb0 : Below w0.heap.size w0 w) (hg : GlobP w0) (h : StoreAt w sb bs im) :
    Calls Tryz.prog 22 #[.pointer (some ⟨sb, 0, none⟩), .int .i64 999] w fun e w' => e = .returned (.bool true) ∧ StoreAt w' sb bs im ∧ But sb w w' := by
  have HST := Hid.mk2 (SgI.start ⟨⟨h, But.refl _ _⟩, h0, hb0, hg⟩ : SgI w0 w _ sb bs im)
  have HL := Hid.mk2 hl
  have HIM := Hid.mk2 him
  clear h0 hb0 hg h hl him
  go_enter Tryz.func22, Tryz.ntmps22
  go_wp2
  go_loopw [7] (fun vi wr => ∃ i : Nat, i ≤ 7 ∧ vi = .int .i64 i ∧ SgI w0 w wr sb bs im) (fun i _ => 7 - (intOf i).toNat)
  case atStart => exact ⟨0, by omega, rfl, HST.out⟩
  case round =>
    obtain ⟨i, hi, rfl, hq⟩ := hrel
    have HI := Hid.mk2 hq
    have hs0 := hq.li.lt
    have hs1 := hq.bb.lt
    clear hq HST
    by_cases hlt : i < 7
    · have HX := Hid.mk2 (strI_no i hlt)
      have HC0 : Hid (∀ wx, SgI w0 w wx sb bs im → wx.cell? ⟨w.heap.size, i * 3, none⟩ = some (.int .i64 (strI i).size) ∧ wx.cell? ⟨w.heap.size, i * 3 + 1, none⟩ = some (.int .i64 (strI i).speed) ∧ wx.cell? ⟨w.heap.size, i * 3 + 2, none⟩ = some (.int .i64 (strI i).need) ∧ wx.cell? ⟨w.heap.size + 1, 0, none⟩ = some (.int .i64 1) ∧ wx.cell? ⟨w.heap.size + 1, 1, none⟩ = some (.int .i64 0) ∧ wx.cell? ⟨w.heap.size + 1, 2, none⟩ = some (.int .i64 1) ∧ wx.cell? ⟨w.heap.size + 1, 3, none⟩ = some (.int .i64 0) ∧ wx.cell? ⟨w.heap.size + 1, 4, none⟩ = some (.int .i64 0)) := fun wx h => by
        obtain ⟨a1, a2, a3⟩ := strIs_at i hlt
        exact ⟨by rw [h.li.cell, a1], by rw [h.li.cell, a2], by rw [h.li.cell, a3], h.bb.cell 0, h.bb.cell 1, h.bb.cell 2, h.bb.cell 3, h.bb.cell 4⟩
      generalize strI i = x at *
      obtain ⟨c0, c1, c2, b0, b1, b2, b3, b4⟩ := HC0.out _ HI.out
      go_upto_region 7 with (go_at_call 17; refine (Rank_item x HX.out sb bs im HIM.out 1 _ HI.out.a.s.st HI.out.a.gp.y).mono ?_; rintro e w1 ⟨hb1, rfl⟩; replace HI := Hid.mk2 ((HI.out.below hb1).below (box3 w1 (.cells #[.int .i64 8, .int .i64 0, .int .i64 0, .slice none 0 0] 52))); have HR := Hid.mk2 (Blk.new w1 #[.int .i64 8, .int .i64 0, .int .i64 0, .slice none 0 0] 52); clear hb1 c0 c1 c2 b0 b1 b2 b3 b4)
      generalize w1.heap.size = rb at HR ⊢
      generalize w1.alloc (.cells #[.int .i64 8, .int .i64 0, .int .i64 0, .slice none 0 0] 52) = wS at HI HR ⊢
      have hr0 := HR.out.lt
      have hs2 := HI.out.li.lt
      have hs3 := HI.out.bb.lt
      have HCELL : Hid (∀ wx, Below wS.heap.size wS wx → wx.cell? ⟨w.heap.size, i * 3, none⟩ = some (.int .i64 x.size) ∧ wx.cell? ⟨w.heap.size, i * 3 + 1, none⟩ = some (.int .i64 x.speed) ∧ wx.cell? ⟨w.heap.size, i * 3 + 2, none⟩ = some (.int .i64 x.need) ∧ wx.cell? ⟨w.heap.size + 1, 0, none⟩ = some (.int .i64 1) ∧ wx.cell? ⟨w.heap.size + 1, 1, none⟩ = some (.int .i64 0) ∧ wx.cell? ⟨w.heap.size + 1, 2, none⟩ = some (.int .i64 1) ∧ wx.cell? ⟨w.heap.size + 1, 3, none⟩ = some (.int .i64 0) ∧ wx.cell? ⟨w.heap.size + 1, 4, none⟩ = some (.int .i64 0)) := fun wx h => HC0.out wx (HI.out.below h)
      have HG : Hid (∀ {wx}, Below wS.heap.size wS wx → GlobP wx) := fun h => (HI.out.below h).a.gp
      have HQ := Hid.mk2 (Below.refl wS.heap.size wS)
      have hls := hr0
      go_cut [9, 10] from 26 to 75 (fun s9 s10 wx => ∃ zb, s9 = .pointer (some ⟨zb, 0, none⟩) ∧ s10 = .int .i64 8 ∧ Blk wx zb #[.int .i64 0, .int .i64 0, .int .i64 0] 23 ∧ Below wS.heap.size wS wx)
      case first =>
        obtain ⟨c0, c1, c2, b0, b1, b2, b3, b4⟩ := HCELL.out _ HQ.out
        obtain ⟨yc0, yc1, yc2, yb0, yb1, yb2, yb3, yb4⟩ := HCELL.out _ (im_al HQ.out (.cells #[.int .i64 0, .int .i64 0, .int .i64 0] 23))
        go_region_held3 (fun w' => w'.cell? ⟨w.heap.size, i * 3, none⟩ = some (.int .i64 x.size) ∧ w'.cell? ⟨w.heap.size, i * 3 + 1, none⟩ = some (.int .i64 x.speed) ∧ w'.cell? ⟨w.heap.size, i * 3 + 2, none⟩ = some (.int .i64 x.need) ∧ w'.cell? ⟨w.heap.size + 1, 0, none⟩ = some (.int .i64 1) ∧ w'.cell? ⟨w.heap.size + 1, 1, none⟩ = some (.int .i64 0) ∧ w'.cell? ⟨w.heap.size + 1, 2, none⟩ = some (.int .i64 1) ∧ w'.cell? ⟨w.heap.size + 1, 3, none⟩ = some (.int .i64 0) ∧ w'.cell? ⟨w.heap.size + 1, 4, none⟩ = some (.int .i64 0)) (first | with_reducible exact HCELL.out _ HQ.out | with_reducible exact HCELL.out _ (im_dr2 HQ.out) | with_reducible exact HCELL.out _ (im_al HQ.out _) | with_reducible exact HCELL.out _ (im_dr2 (im_al HQ.out _)) | with_reducible exact HCELL.out _ (im_set (im_set (im_set HQ.out 0 _ (by omega)) 1 _ (by omega)) 2 _ (by omega))) (first
          | (go_at_call 41; refine (simple_any _).mono ?_; rintro e w2 ⟨rfl, hb2⟩; (first | replace HQ := Hid.mk2 (show Below wS.heap.size wS w2 by with_reducible exact im_step (im_dr2 HQ.out) hb2) | (have hZ := (Blk.new wS #[.int .i64 0, .int .i64 0, .int .i64 0] 23).drew.below hb2 (by simp); replace HQ := Hid.mk2 (show Below wS.heap.size wS w2 by with_reducible exact im_step (im_dr2 (im_al HQ.out (.cells #[.int .i64 0, .int .i64 0, .int .i64 0] 23))) hb2))); clear hb2; have hl2 := HQ.out.size; obtain ⟨c0, c1, c2, b0, b1, b2, b3, b4⟩ := HCELL.out _ HQ.out; obtain ⟨yc0, yc1, yc2, yb0, yb1, yb2, yb3, yb4⟩ := HCELL.out _ (im_al HQ.out (.cells #[.int .i64 0, .int .i64 0, .int .i64 0] 23)); try (have q0 := hZ.cell 0; have q1 := hZ.cell 1; have q2 := hZ.cell 2; have p0 := hZ.free 0; have p1 := hZ.free 1; have p2 := hZ.free 2))
          | (go_at_call 44; refine (Run_item x ⟨1, 0, 1, 0, 0⟩ HX.out _ (by first | with_reducible exact HG.out HQ.out | with_reducible exact HG.out (im_al HQ.out (.cells #[.int .i64 0, .int .i64 0, .int .i64 0] 23)) | with_reducible exact HG.out (im_dr2 HQ.out))).mono ?_; rintro e w3 ⟨hb3, rfl⟩; (first | (replace HQ := Hid.mk2 (show Below wS.heap.size wS w3 by with_reducible exact im_step HQ.out hb3); try replace hZ := hZ.below hb3 hZ.lt) | (have hZ := (Blk.new _ #[.int .i64 0, .int .i64 0, .int .i64 0] 23).below hb3 (by simp); replace HQ := Hid.mk2 (show Below wS.heap.size wS w3 by with_reducible exact im_step (im_al HQ.out (.cells #[.int .i64 0, .int .i64 0, .int .i64 0] 23)) hb3))); clear hb3; have hl3 := HQ.out.size; try (have q0 := hZ.cell 0; have q1 := hZ.cell 1; have q2 := hZ.cell 2; have p0 := hZ.free 0; have p1 := hZ.free 1; have p2 := hZ.free 2)))
        all_goals
          go_wp2_with fail
          go_meet
          case rel => first | exact ⟨_, rfl, rfl, Blk.new w3 _ _, im_al HQ.out _⟩ | exact ⟨_, rfl, rfl, ((hZ.set 0 _).set 1 _).set 2 _, im_set (im_set (im_set HQ.out 0 _ (by omega)) 1 _ (by omega)) 2 _ (by omega)⟩
      case rest =>
        obtain ⟨zb, rfl, rfl, hz, hq⟩ := hcut
        have HZ := Hid.mk2 hz
        have HR2 := Hid.mk2 (HR.out.below hq HR.out.lt)
        have HI2 := Hid.mk2 (HI.out.below hq)
        have z2 := hz.cell 2
        have r0 := HR2.out.cell 0
        have r1 := HR2.out.cell 1
        have r2 := HR2.out.cell 2
        have r3 := HR2.out.cell 3
        clear hz hq HQ HI HR
        go_wp2
        go_roundw
        case rel => exact ⟨i + 1, by omega, by go_num, HI2.out⟩
        case measure => simp [intOf]; omega
    · have HA := Hid.mk2 HI.out.a
      clear HI hs0 hs1
      go_wp2
      generalize hlb : wr.heap.size = lb
      go_loopw [12] (fun vi wx => ∃ i : Nat, i ≤ 11 ∧ vi = .int .i64 i ∧ SgB w0 w wx sb lb bs im) (fun i _ => 11 - (intOf i).toNat)
      case atStart => exact ⟨0, by omega, rfl, by rw [← hlb]; exact SgB.start HA.out⟩
      case round =>
        clear hlb HA
        obtain ⟨i, hi, rfl, hq⟩ := hrel
        have HI := Hid.mk2 hq
        have hs0 := hq.ll.lt
        clear hq
        by_cases hlt : i < 11
        · have HX := Hid.mk2 (strB_no i hlt)
          have HC0 : Hid (∀ wx, SgB w0 w wx sb lb bs im → wx.cell? ⟨lb, i * 5, none⟩ = some (.int .i64 (strB i).id) ∧ wx.cell? ⟨lb, i * 5 + 1, none⟩ = some (.int .i64 (strB i).zone) ∧ wx.cell? ⟨lb, i * 5 + 2, none⟩ = some (.int .i64 (strB i).cap) ∧ wx.cell? ⟨lb, i * 5 + 3, none⟩ = some (.int .i64 (strB i).used) ∧ wx.cell? ⟨lb, i * 5 + 4, none⟩ = some (.int .i64 (strB i).has)) := fun wx h => by
            obtain ⟨a1, a2, a3, a4, a5⟩ := strBs_at i hlt
            exact ⟨by rw [h.ll.cell, a1], by rw [h.ll.cell, a2], by rw [h.ll.cell, a3], by rw [h.ll.cell, a4], by rw [h.ll.cell, a5]⟩
          generalize strB i = b at *
          have HAK : Hid (addK bs b = 9) := by rw [Hid, addK, if_pos HX.out]
          obtain ⟨c0, c1, c2, c3, c4⟩ := HC0.out _ HI.out
          go_upto_region 15 with (go_at_call 25; refine (add_no (b := b) HAK.out (by decide) sb im _ HI.out.a.s.st HL.out).mono ?_; rintro e wS ⟨rfl, hs1⟩; replace HI := Hid.mk2 (HI.out.next hs1); clear hs1 c0 c1 c2 c3 c4)
          have hs2 := HI.out.ll.lt
          have HCELL : Hid (∀ wx, Below wS.heap.size wS wx → wx.cell? ⟨lb, i * 5, none⟩ = some (.int .i64 b.id) ∧ wx.cell? ⟨lb, i * 5 + 1, none⟩ = some (.int .i64 b.zone) ∧ wx.cell? ⟨lb, i * 5 + 2, none⟩ = some (.int .i64 b.cap) ∧ wx.cell? ⟨lb, i * 5 + 3, none⟩ = some (.int .i64 b.used) ∧ wx.cell? ⟨lb, i * 5 + 4, none⟩ = some (.int .i64 b.has)) := fun wx h => HC0.out wx (HI.out.below h)
          have HG : Hid (∀ {wx}, Below wS.heap.size wS wx → GlobP wx) := fun h => (HI.out.below h).a.gp
          have HQ := Hid.mk2 (Below.refl wS.heap.size wS)
          go_cut [14, 15] from 97 to 129 (fun s9 s10 wx => ∃ zb, s9 = .pointer (some ⟨zb, 0, none⟩) ∧ s10 = .int .i64 9 ∧ Blk wx zb #[.int .i64 0, .int .i64 0, .int .i64 0] 23 ∧ Below wS.heap.size wS wx)
          case first =>
            obtain ⟨c0, c1, c2, c3, c4⟩ := HCELL.out _ HQ.out
            obtain ⟨yc0, yc1, yc2, yc3, yc4⟩ := HCELL.out _ (im_al HQ.out (.cells #[.int .i64 0, .int .i64 0, .int .i64 0] 23))
            go_region_held3 (fun w' => w'.cell? ⟨lb, i * 5, none⟩ = some (.int .i64 b.id) ∧ w'.cell? ⟨lb, i * 5 + 1, none⟩ = some (.int .i64 b.zone) ∧ w'.cell? ⟨lb, i * 5 + 2, none⟩ = some (.int .i64 b.cap) ∧ w'.cell? ⟨lb, i * 5 + 3, none⟩ = some (.int .i64 b.used) ∧ w'.cell? ⟨lb, i * 5 + 4, none⟩ = some (.int .i64 b.has)) (first | with_reducible exact HCELL.out _ HQ.out | with_reducible exact HCELL.out _ (im_dr2 HQ.out) | with_reducible exact HCELL.out _ (im_al HQ.out _) | with_reducible exact HCELL.out _ (im_dr2 (im_al HQ.out _)) | with_reducible exact HCELL.out _ (im_set (im_set (im_set HQ.out 0 _ (by omega)) 1 _ (by omega)) 2 _ (by omega))) (first
              | (go_at_call 41; refine (simple_any _).mono ?_; rintro e w2 ⟨rfl, hb2⟩; (first | replace HQ := Hid.mk2 (show Below wS.heap.size wS w2 by with_reducible exact im_step (im_dr2 HQ.out) hb2) | (have hZ := (Blk.new wS #[.int .i64 0, .int .i64 0, .int .i64 0] 23).drew.below hb2 (by simp); replace HQ := Hid.mk2 (show Below wS.heap.size wS w2 by with_reducible exact im_step (im_dr2 (im_al HQ.out (.cells #[.int .i64 0, .int .i64 0, .int .i64 0] 23))) hb2))); clear hb2; have hl2 := HQ.out.size; obtain ⟨c0, c1, c2, c3, c4⟩ := HCELL.out _ HQ.out; obtain ⟨yc0, yc1, yc2, yc3, yc4⟩ := HCELL.out _ (im_al HQ.out (.cells #[.int .i64 0, .int .i64 0, .int .i64 0] 23)); try (have q0 := hZ.cell 0; have q1 := hZ.cell 1; have q2 := hZ.cell 2; have p0 := hZ.free 0; have p1 := hZ.free 1; have p2 := hZ.free 2))
              | (go_at_call 44; refine (Run_bin ⟨1, 0, 0⟩ b (by decide) HX.out _ (by first | with_reducible exact HG.out HQ.out | with_reducible exact HG.out (im_al HQ.out (.cells #[.int .i64 0, .int .i64 0, .int .i64 0] 23)) | with_reducible exact HG.out (im_dr2 HQ.out))).mono ?_; rintro e w3 ⟨hb3, rfl⟩; (first | (replace HQ := Hid.mk2 (show Below wS.heap.size wS w3 by with_reducible exact im_step HQ.out hb3); try replace hZ := hZ.below hb3 hZ.lt) | (have hZ := (Blk.new _ #[.int .i64 0, .int .i64 0, .int .i64 0] 23).below hb3 (by simp); replace HQ := Hid.mk2 (show Below wS.heap.size wS w3 by with_reducible exact im_step (im_al HQ.out (.cells #[.int .i64 0, .int .i64 0, .int .i64 0] 23)) hb3))); clear hb3; have hl3 := HQ.out.size; try (have q0 := hZ.cell 0; have q1 := hZ.cell 1; have q2 := hZ.cell 2; have p0 := hZ.free 0; have p1 := hZ.free 1; have p2 := hZ.free 2)))
            all_goals
              go_wp2_with fail
              go_meet
              case rel => first | exact ⟨_, rfl, rfl, Blk.new w3 _ _, im_al HQ.out _⟩ | exact ⟨_, rfl, rfl, ((hZ.set 0 _).set 1 _).set 2 _, im_set (im_set (im_set HQ.out 0 _ (by omega)) 1 _ (by omega)) 2 _ (by omega)⟩
          case rest =>
            obtain ⟨zb, rfl, rfl, hz, hq⟩ := hcut
            have HI2 := Hid.mk2 (HI.out.below hq)
            have z2 := hz.cell 2
            clear hz hq HQ HI
            go_wp2
            go_roundw
            case rel => exact ⟨i + 1, by omega, by go_num, HI2.out⟩
            case measure => simp [intOf]; omega
        · have HA := Hid.mk2 HI.out.a
          clear HI hs0
          go_wp2_with (go_at_call 17; refine (Rank_arg ⟨1, 0, 0⟩ (by decide) sb bs im HIM.out (-1) (by omega) _ HA.out.s.st HA.out.gp.y).mono ?_; rintro e w9 ⟨hb9, rfl⟩; replace HA := Hid.mk2 (HA.out.below hb9); clear hb9)
          go_ret
          have HF := HA.out.below (box3 w9 (.cells #[.int .i64 13, .int .i64 0, .int .i64 0, .slice none 0 0] 52))
          exact ⟨by simp, HF.s.st, HF.s.bt⟩
end Go.Proofs.YtjjbmbjmdgoofaaGreatDoor
namespace Go.Proofs.YtjjbmbjmdgoofaaGreatDoor
open Go.RowKit
set_option maxHeartbeats 2000000 in
set_option maxRecDepth 100000 in
theorem shelf_ids (s : ByteArray) (hs : s.size ≤ maxLen) (w : World) :
    Calls Tryz.prog 15 #[.string s] w fun e w' => Below w.heap.size w w' ∧ ∃ l a c, Shelf l ∧ 1 ≤ l.length ∧ l.length ≤ 12 ∧ (∀ b ∈ l, b.id < 1000) ∧ e = .returned (.slice a l.length c) ∧ w'.ownsRow w.heap.size 31 5 (.slice a l.length c) l.length (cellsB l) := by
  obtain ⟨i0, hi0, hz0, hz1, hz2⟩ := info_parts Tryz.infoBin
  have HM : Hid (Made w (w.alloc (.cells #[.string s, .int .i64 0] 35)) (.slice none 0 0) 0 []) := ⟨Shelf.nil, by simp, World.ownsRow_nil _ _ _ _, feed_new w s hs, box3 w _⟩
  clear hs
  go_enter Tryz.func15, Tryz.ntmps15
  go_wp2_with (first
    | (go_at_call_of 29 (Value.int IntKind.i64 12); refine (next_any 12 (by omega) _ _ HM.out.fed).mono ?_; rintro e w1 ⟨⟨r1, h1, k1, rfl⟩, hF, hB⟩; replace HM := Hid.mk2 (HM.out.but hB hF); clear hF hB)
    | (go_at_call_of 29 (Value.int IntKind.i64 50); refine (next_any 50 (by omega) _ _ HM.out.fed).mono ?_; rintro e w2 ⟨⟨r2, h2, k2, rfl⟩, hF, hB⟩; replace HM := Hid.mk2 (HM.out.but hB hF); clear hF hB))
  obtain ⟨n, hn⟩ : ∃ n : Nat, (n : Int) = 1 + r1 := ⟨(1 + r1).toNat, by omega⟩
  have hn1 : 1 ≤ n ∧ n ≤ 12 := by omega
  rw [← hn]
  clear hn h1 k1
  go_loopw [5, 6, 7] (fun v vid vi wr => ∃ (i : Nat) (id : Int) (l : List Bn), i ≤ n ∧ vi = .int .i64 i ∧ l.length = i ∧ vid = .int .i64 id ∧ 0 ≤ id ∧ id ≤ 50 + 41 * i ∧ Made w wr v id l) (fun _ _ i _ => n - (intOf i).toNat)
  case atStart => exact ⟨0, r2, [], Nat.zero_le _, rfl, rfl, rfl, h2, by omega, HM.out.more h2⟩
  case round =>
    obtain ⟨i, id, l, hi, rfl, hl, rfl, hid0, hid1, hm⟩ := hrel
    have HQ := Hid.mk2 hm
    have HL := Hid.mk2 hl
    have hl12 : l.length ≤ 12 := by omega
    clear hm hl HM
    by_cases hlt : i < n
    · have hd : decide ((i : Int) < (n : Int)) = true := by simp; omega
      go_wp2_with (first
        | (go_at_call 8; refine (bin_any id (by omega) _ _ HQ.out.fed).mono ?_; rintro e w3 ⟨⟨y, hy, hyid, rfl⟩, hF, hB⟩; unfold bnA; replace HQ := Hid.mk2 ((HQ.out.but hB hF).al (.cells #[.int .i64 y.id, .int .i64 y.zone, .int .i64 y.cap, .int .i64 y.used, .int .i64 y.has] 31)); have HY := Hid.mk2 hy; have HYI := Hid.mk2 hyid; have hsz3 : w.heap.size < w3.heap.size := hF.lt; clear hF hB hy hyid)
        | (at_builtin; refine wpList_append_own _ rfl (.tmp 25) (.tmp 27) 45 rfl (w.heap.size + 1) 31 i0 (.agg #[.int .i64 0, .int .i64 0, .int .i64 0, .int .i64 0, .int .i64 0]) 5 40 Tryz.underlying45 hi0 hz0 hz1 hz2 rfl (by decide) _ _ _ rfl (HQ.out.own.alloc _) ⟨w3.heap.size + 1, 0, none⟩ 1 1 [.int .i64 y.id, .int .i64 y.zone, .int .i64 y.cap, .int .i64 y.used, .int .i64 y.has] rfl rfl (cell_five_at _ _ _ _ _ _ _ _ (by simp)) (one_bin y) (by unfold maxLen; omega) (by omega) (by simp; omega) ?_; intro v' w4 hown2 hgrow2 _; replace HQ := Hid.mk2 (HQ.out.snoc HY.out HYI.out hown2 hgrow2); clear hown2 hgrow2)
        | (go_at_call 29; refine (next_any 40 (by omega) _ _ HQ.out.fed).mono ?_; rintro e w5 ⟨⟨r5, h5, k5, rfl⟩, hF, hB⟩; replace HQ := Hid.mk2 (HQ.out.but hB hF); clear hF hB))
      go_roundw
      case rel => exact ⟨i + 1, id + 1 + r5, l ++ [y], by omega, by go_num, by simp [HL.out], by go_num, by omega, by omega, HQ.out.more (by omega)⟩
      case measure => simp [intOf]; omega
    · have hd : decide ((i : Int) < (n : Int)) = false := by simp; omega
      have ho := HQ.out.own
      obtain ⟨a, c, hv⟩ := (reads_of_own ho).shape
      have hin : i = n := by omega
      go_wp2
      go_ret
      refine ⟨HQ.out.bl, l, a, c, HQ.out.up, by have := HL.out; omega, hl12, fun b hb => by have := HQ.out.lt b hb; omega, by rw [hv] <;> rfl, ?_⟩
      rw [hv] at ho
      exact own_low ho (by omega)
end Go.Proofs.YtjjbmbjmdgoofaaGreatDoor
