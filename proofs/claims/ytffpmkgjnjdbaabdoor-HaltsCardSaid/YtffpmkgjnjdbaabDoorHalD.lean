/-
  Halts: any bytes.
-/
import Derived.Test.YtffpmkgjnjdbaabDoorHalC
import Derived.Deep.DeepCutAuto
import Derived.Deep.RegionWith
set_option linter.unusedVariables false
set_option linter.unusedSimpArgs false
namespace Go.Proofs.YtffpmkgjnjdbaabDoor
open Go.RowKit

theorem bsN_len (l : List Nat) : (bsN l).size = l.length := by simp [bsN, ByteArray.size]
theorem sits_bsN (l : List Nat) (h : ∀ b ∈ l, b < 256) : Sits (bsN l) 0 l := by
  intro i b hi
  have hlt : i < l.length := (List.getElem?_eq_some_iff.1 hi).1
  have hb : b < 256 := h b (List.mem_of_getElem? hi)
  have hsz : i < (bsN l).size := by rw [bsN_len]; exact hlt
  refine ⟨by rw [Nat.zero_add]; exact hsz, ?_⟩
  rw [Nat.zero_add, bt_get _ _ hsz]
  have e : (bsN l)[i] = UInt8.ofNat l[i] := by
    show (bsN l).data[i]'(by rw [ByteArray.size] at hsz; exact hsz) = _
    simp [bsN]
  have hl : l[i] = b := (List.getElem?_eq_some_iff.1 hi).2
  rw [e, hl]
  simp [UInt8.toNat_ofNat', Nat.mod_eq_of_lt hb]
theorem sim_out {x : Itm} {y : Bn} {r : Nat × Int × Nat} {k : Int} (hx : x.Ok) (hy : y.Ok) (h : OutIs (bsN [83, 76, 0, 17]) x y r k) : r = (0, 0, 1) ∧ k = 0 := by
  have hs : Sits (bsN [83, 76, 0, 17]) 0 (imgC 0 [17]) := sits_bsN [83, 76, 0, 17] (by decide)
  have hz : (bsN [83, 76, 0, 17]).size = 4 := bsN_len _
  have hi := rej_img hs hz
  have hx' := (itmB_iff x).2 hx
  have hy' := (bnB_iff y).2 hy
  rcases h with ⟨a, _⟩ | ⟨_, a, _⟩ | ⟨_, _, a, _⟩ | ⟨_, _, _, a, b⟩
  · exact absurd hi a
  · rw [hx'] at a; cases a
  · rw [hy'] at a; cases a
  · exact ⟨by rw [a, rej_run hs], b⟩
theorem out_img {s : ByteArray} {x : Itm} {y : Bn} {r : Nat × Int × Nat} {k : Int} (hi : IsImg s) (hx : x.Ok) (hy : y.Ok) (h : OutIs s x y r k) : k = 0 ∧ EndOk r.1 r.2.1 ∧ 1 ≤ r.2.2 ∧ r.2.2 + 3 ≤ s.size := by
  have hx' := (itmB_iff x).2 hx
  have hy' := (bnB_iff y).2 hy
  rcases h with ⟨a, _⟩ | ⟨_, a, _⟩ | ⟨_, _, a, _⟩ | ⟨_, _, _, a, b⟩
  · exact absurd hi a
  · rw [hx'] at a; cases a
  · rw [hy'] at a; cases a
  · obtain ⟨k', v, m, e, h1, h2, h3⟩ := img_ends hi hx hy
    rw [a, e]
    exact ⟨b, h1, h2, h3⟩
theorem out_none {s : ByteArray} {x : Itm} {y : Bn} {r : Nat × Int × Nat} {k : Int} (hi : ¬ IsImg s) (h : OutIs s x y r k) : k = 7 ∧ r = (0, 0, 0) := by
  rcases h with ⟨_, a, b⟩ | ⟨a, _⟩ | ⟨a, _⟩ | ⟨a, _⟩
  · exact ⟨b, a⟩
  all_goals exact absurd a hi
/-- What lies in memory while Halts runs. -/
structure HSt (w wx : World) (bx : Nat) (x : Itm) (y : Bn) : Prop where
  it : Blk wx bx #[.int .i64 x.size, .int .i64 x.speed, .int .i64 x.need] 23
  bn : Blk wx (bx + 1) #[.int .i64 y.id, .int .i64 y.zone, .int .i64 y.cap, .int .i64 y.used, .int .i64 y.has] 25
  st : Blk wx (bx + 1 + 1) #[.slice none 0 0, .string { data := #[] }] 61
  bl : Below w.heap.size w wx
  gp : GlobP wx
  gw : GlobP w
theorem HSt.below {w wx w' : World} {bx : Nat} {x : Itm} {y : Bn} (h : HSt w wx bx x y) (hb : Below wx.heap.size wx w') : HSt w w' bx x y :=
  ⟨h.it.below hb h.it.lt, h.bn.below hb h.bn.lt, h.st.below hb h.st.lt, h.bl.trans (hb.mono h.bl.size), h.gp.below hb, h.gw⟩
theorem HSt.al {w wx : World} {bx : Nat} {x : Itm} {y : Bn} (h : HSt w wx bx x y) (o : Obj) : HSt w (wx.alloc o) bx x y := h.below (box3 wx o)
theorem HSt.dr {w wx : World} {bx : Nat} {x : Itm} {y : Bn} (h : HSt w wx bx x y) : HSt w wx.drew bx x y := h.below (below_drewN (Below.refl _ wx) 1)
theorem HSt.oth {w wx : World} {bx : Nat} {x : Itm} {y : Bn} (h : HSt w wx bx x y) (b i : Nat) (v : Value) (hb : bx + 1 + 1 < b) (hw : w.heap.size ≤ bx) : HSt w (wx.setCell ⟨b, i, none⟩ v) bx x y :=
  ⟨h.it.other _ _ (by simp only; omega), h.bn.other _ _ (by simp only; omega), h.st.other _ _ (by simp only; omega), h.bl.setCell (p := ⟨b, i, none⟩) (by simp only; omega) v, h.gp.belowB ((Below.refl b wx).setCell (p := ⟨b, i, none⟩) (Nat.le_refl _) v) (by have := h.gw.size; omega) (by have := h.gw.size; omega) (by have := h.gw.size; omega), h.gw⟩
theorem hst_start {w w1 : World} (hb : Below w.heap.size w w1) (hg : GlobP w) (x : Itm) (y : Bn) : HSt w (((w1.alloc (.cells #[.int .i64 x.size, .int .i64 x.speed, .int .i64 x.need] 23)).alloc (.cells #[.int .i64 y.id, .int .i64 y.zone, .int .i64 y.cap, .int .i64 y.used, .int .i64 y.has] 25)).alloc (.cells #[.slice none 0 0, .string { data := #[] }] 61)) w1.heap.size x y := by
  have hb3 : Below w1.heap.size w1 (((w1.alloc (.cells #[.int .i64 x.size, .int .i64 x.speed, .int .i64 x.need] 23)).alloc (.cells #[.int .i64 y.id, .int .i64 y.zone, .int .i64 y.cap, .int .i64 y.used, .int .i64 y.has] 25)).alloc (.cells #[.slice none 0 0, .string { data := #[] }] 61)) := ((box3 w1 _).alloc (by simp) _).alloc (by simp; omega) _
  refine ⟨((Blk.new w1 _ _).alloc _).alloc _, ?_, ?_, hb.trans (hb3.mono hb.size), (hg.below hb).below hb3, hg⟩
  · have := (Blk.new (w1.alloc (.cells #[.int .i64 x.size, .int .i64 x.speed, .int .i64 x.need] 23)) #[.int .i64 y.id, .int .i64 y.zone, .int .i64 y.cap, .int .i64 y.used, .int .i64 y.has] 25).alloc (.cells #[.slice none 0 0, .string { data := #[] }] 61)
    simpa using this
  · have := Blk.new ((w1.alloc (.cells #[.int .i64 x.size, .int .i64 x.speed, .int .i64 x.need] 23)).alloc (.cells #[.int .i64 y.id, .int .i64 y.zone, .int .i64 y.cap, .int .i64 y.used, .int .i64 y.has] 25)) #[.slice none 0 0, .string { data := #[] }] 61
    simpa using this
set_option maxHeartbeats 1000000 in
theorem simple_any (w : World) :
    Calls Tryd.prog 11 #[] w fun e w' => e = .returned (.string (bsN [83, 76, 0, 17])) ∧ Below w.heap.size w w' := by
  have z0 : (bsN [0]).size = 1 := bsN_len _
  have z1 : (bsN [17]).size = 1 := bsN_len _
  have HE : Hid ((({ data := #[83, 76] } : ByteArray) ++ bsN [0]) ++ bsN [17] = bsN [83, 76, 0, 17]) := by
    have e : ({ data := #[83, 76] } : ByteArray) = bsN [83, 76] := rfl
    rw [Hid, e, bsN_append, bsN_append]; rfl
  go_enter Tryd.func11, Tryd.ntmps11
  go_wp2_with (first
    | (go_at_call_of 7 (Value.int IntKind.i64 0); refine (op_any 0 (by omega) _).mono ?_; rintro e w1 ⟨rfl, hb1⟩)
    | (go_at_call_of 7 (Value.int IntKind.i64 17); refine (op_any 17 (by omega) _).mono ?_; rintro e w2 ⟨rfl, hb2⟩))
  go_ret
  exact ⟨by rw [← HE.out]; rfl, hb1.trans (hb2.mono hb1.size)⟩
set_option maxHeartbeats 4000000 in
set_option maxRecDepth 100000 in
theorem Halts_any (s : ByteArray) (a b c : Int) (t : ByteArray) (ha : In64 a) (hb : In64 b) (hc : In64 c) (hs : s.size ≤ maxLen) (ht : t.size ≤ maxLen) (w : World) (hg : GlobP w) :
    Calls Tryd.prog 4 #[.string s, .int .i64 a, .int .i64 b, .int .i64 c, .string t] w fun e w' => Below w.heap.size w w' ∧ e = .returned (.bool true) := by
  have HA := Hid.mk2 ha
  have HB := Hid.mk2 hb
  have HC := Hid.mk2 hc
  have HT := Hid.mk2 ht
  have HG := Hid.mk2 hg
  have hs' : (s.size : Int) ≤ 9223372036854775807 := by have h := hs; simp [maxLen] at h; omega
  clear ha hb hc ht hg hs
  go_enter Tryd.func4, Tryd.ntmps4
  go_upto_region 5 with (first
    | (go_at_call 5; refine (around_any a b c HA.out HB.out HC.out t HT.out _).mono ?_; rintro e w1 ⟨⟨x, y, hx, hy, rfl⟩, hb1⟩; unfold itmA bnA)
    | (go_at_call 10; refine (New_any _).mono ?_; rintro e _ ⟨rfl, rfl⟩))
  have HX := Hid.mk2 hx
  have HY := Hid.mk2 hy
  have HM := Hid.mk2 (hst_start hb1 HG.out x y)
  clear hx hy
  generalize hW3 : ((w1.alloc (.cells #[.int .i64 x.size, .int .i64 x.speed, .int .i64 x.need] 23)).alloc (.cells #[.int .i64 y.id, .int .i64 y.zone, .int .i64 y.cap, .int .i64 y.used, .int .i64 y.has] 25)).alloc (.cells #[.slice none 0 0, .string { data := #[] }] 61) = wS at *
  clear hW3
  have hlS := HM.out.st.lt
  go_cut [14, 15] (fun s14 s15 wx => ∃ zb, s14 = .pointer (some ⟨zb, 0, none⟩) ∧ s15 = .int .i64 0 ∧ Blk wx zb #[.int .i64 0, .int .i64 0, .int .i64 1] 36 ∧ HSt w wx w1.heap.size x y)
  case first =>
    have i0 := HM.out.it.cell 0; have i1 := HM.out.it.cell 1; have i2 := HM.out.it.cell 2; have b0 := HM.out.bn.cell 0; have b1 := HM.out.bn.cell 1; have b2 := HM.out.bn.cell 2; have b3 := HM.out.bn.cell 3; have b4 := HM.out.bn.cell 4; have y0 := (HM.out.al (.cells #[.int .i64 0, .int .i64 0, .int .i64 0] 36)).it.cell 0; have y1 := (HM.out.al (.cells #[.int .i64 0, .int .i64 0, .int .i64 0] 36)).it.cell 1; have y2 := (HM.out.al (.cells #[.int .i64 0, .int .i64 0, .int .i64 0] 36)).it.cell 2; have y3 := (HM.out.al (.cells #[.int .i64 0, .int .i64 0, .int .i64 0] 36)).bn.cell 0; have y4 := (HM.out.al (.cells #[.int .i64 0, .int .i64 0, .int .i64 0] 36)).bn.cell 1; have y5 := (HM.out.al (.cells #[.int .i64 0, .int .i64 0, .int .i64 0] 36)).bn.cell 2; have y6 := (HM.out.al (.cells #[.int .i64 0, .int .i64 0, .int .i64 0] 36)).bn.cell 3; have y7 := (HM.out.al (.cells #[.int .i64 0, .int .i64 0, .int .i64 0] 36)).bn.cell 4
    have hw1 := hb1.size
    go_region_with (first
      | (go_at_call 11; refine (simple_any _).mono ?_; rintro e w2 ⟨rfl, hb2⟩; (first | replace HM := Hid.mk2 (HM.out.dr.below hb2) | (have hZ := (Blk.new wS #[.int .i64 0, .int .i64 0, .int .i64 0] 36).drew.below hb2 (by simp); replace HM := Hid.mk2 ((HM.out.al (.cells #[.int .i64 0, .int .i64 0, .int .i64 0] 36)).dr.below hb2))); have hl2 := HM.out.st.lt; clear hb2; have i0 := HM.out.it.cell 0; have i1 := HM.out.it.cell 1; have i2 := HM.out.it.cell 2; have b0 := HM.out.bn.cell 0; have b1 := HM.out.bn.cell 1; have b2 := HM.out.bn.cell 2; have b3 := HM.out.bn.cell 3; have b4 := HM.out.bn.cell 4; have y0 := (HM.out.al (.cells #[.int .i64 0, .int .i64 0, .int .i64 0] 36)).it.cell 0; have y1 := (HM.out.al (.cells #[.int .i64 0, .int .i64 0, .int .i64 0] 36)).it.cell 1; have y2 := (HM.out.al (.cells #[.int .i64 0, .int .i64 0, .int .i64 0] 36)).it.cell 2; have y3 := (HM.out.al (.cells #[.int .i64 0, .int .i64 0, .int .i64 0] 36)).bn.cell 0; have y4 := (HM.out.al (.cells #[.int .i64 0, .int .i64 0, .int .i64 0] 36)).bn.cell 1; have y5 := (HM.out.al (.cells #[.int .i64 0, .int .i64 0, .int .i64 0] 36)).bn.cell 2; have y6 := (HM.out.al (.cells #[.int .i64 0, .int .i64 0, .int .i64 0] 36)).bn.cell 3; have y7 := (HM.out.al (.cells #[.int .i64 0, .int .i64 0, .int .i64 0] 36)).bn.cell 4; try (have q0 := hZ.cell 0; have q1 := hZ.cell 1; have q2 := hZ.cell 2; have p0 := hZ.free 0; have p1 := hZ.free 1; have p2 := hZ.free 2))
      | (go_at_call 8; (first | refine (pRun_any _ x y _ HM.out.gp).mono ?_ | refine (pRun_any _ x y _ (HM.out.al _).gp).mono ?_); rintro e w3 ⟨hb3, r, k, ho, rfl⟩; obtain ⟨rfl, rfl⟩ := sim_out HX.out HY.out ho; rw [show resA (0, 0, 1) = .agg #[.int .i64 0, .int .i64 0, .int .i64 1] from rfl]; (first | (replace HM := Hid.mk2 (HM.out.below hb3); try replace hZ := hZ.below hb3 hZ.lt) | (have hZ := (Blk.new _ #[.int .i64 0, .int .i64 0, .int .i64 0] 36).below hb3 (by simp); replace HM := Hid.mk2 ((HM.out.al _).below hb3))); clear hb3 ho; try (have q0 := hZ.cell 0; have q1 := hZ.cell 1; have q2 := hZ.cell 2; have p0 := hZ.free 0; have p1 := hZ.free 1; have p2 := hZ.free 2)))
    all_goals
      go_wp2_with fail
      go_meet
      case rel => first | exact ⟨_, rfl, rfl, Blk.new w3 _ _, HM.out.al _⟩ | exact ⟨_, rfl, rfl, ((hZ.set 0 _).set 1 _).set 2 _, ((HM.out.oth _ 0 _ (by omega) hw1).oth _ 1 _ (by omega) hw1).oth _ 2 _ (by omega) hw1⟩
  case rest =>
    obtain ⟨zb, rfl, rfl, hz, hm⟩ := hcut
    have hw1 := hb1.size
    clear HM
    have HM := Hid.mk2 hm
    have z0 := hz.cell 0
    have z1 := hz.cell 1
    have z2 := hz.cell 2
    clear hm hz
    by_cases hi : IsImg s
    · have HI := Hid.mk2 hi
      clear hi
      go_wp2_with (first
        | (go_at_call 9; refine (Verify_any s _ HM.out.gp).mono ?_; rintro e w4 ⟨hb4, hor⟩; obtain ⟨_, rfl⟩ := hor.resolve_right (fun h => h.1 HI.out); replace HM := Hid.mk2 (HM.out.below hb4); clear hb4 hor; have i0 := HM.out.it.cell 0; have i1 := HM.out.it.cell 1; have i2 := HM.out.it.cell 2; have b0 := HM.out.bn.cell 0; have b1 := HM.out.bn.cell 1; have b2 := HM.out.bn.cell 2; have b3 := HM.out.bn.cell 3; have b4 := HM.out.bn.cell 4)
        | (go_at_call 8; refine (pRun_any s x y _ HM.out.gp).mono ?_; rintro e w5 ⟨hb5, r, k, ho, rfl⟩; obtain ⟨rfl, he, h1, h2⟩ := out_img HI.out HX.out HY.out ho; unfold resA; obtain ⟨k1, v1, m1⟩ := r; simp only at he h1 h2 ⊢; replace HM := Hid.mk2 (HM.out.below hb5); clear hb5 ho; have hd1 : decide ((m1 : Int) < 1) = false := (by simp; omega); have hd2 : decide ((s.size : Int) - 3 < (m1 : Int)) = false := (by simp; omega); rcases he with ⟨rfl, rfl⟩ | ⟨rfl, rfl | rfl⟩ | rfl)
        | (go_at_call 12; refine (LoadImage_any s _ _ _ _ (HM.out.al _).gp (HM.out.al _).st).mono ?_; rintro e w6 hor; obtain ⟨_, rfl, hst, hbt⟩ := hor.resolve_right (fun h => h.1 HI.out); have hlt3 := HM.out.st.lt; have hsz := HM.out.bl.size; have HE := Hid.mk2 ((HM.out.al _).bl.trans (hbt.below (by omega) (by simp; omega))); have hZ := (Blk.new w5 _ _).but hbt (by omega); have r0 := hZ.cell 0; have r1 := hZ.cell 1; have r2 := hZ.cell 2))
      all_goals go_ret
      all_goals exact ⟨HE.out, rfl⟩
    · have HI := Hid.mk2 hi
      clear hi
      go_wp2_with (first
        | (go_at_call 9; refine (Verify_any s _ HM.out.gp).mono ?_; rintro e w4 ⟨hb4, hor⟩; obtain ⟨_, rfl⟩ := hor.resolve_left (fun h => HI.out h.1); replace HM := Hid.mk2 (HM.out.below hb4); clear hb4 hor; have i0 := HM.out.it.cell 0; have i1 := HM.out.it.cell 1; have i2 := HM.out.it.cell 2; have b0 := HM.out.bn.cell 0; have b1 := HM.out.bn.cell 1; have b2 := HM.out.bn.cell 2; have b3 := HM.out.bn.cell 3; have b4 := HM.out.bn.cell 4)
        | (go_at_call 8; refine (pRun_any s x y _ HM.out.gp).mono ?_; rintro e w5 ⟨hb5, r, k, ho, rfl⟩; obtain ⟨rfl, rfl⟩ := out_none HI.out ho; rw [show resA (0, 0, 0) = .agg #[.int .i64 0, .int .i64 0, .int .i64 0] from rfl]; replace HM := Hid.mk2 (HM.out.below hb5); clear hb5 ho)
        | (go_at_call 12; refine (LoadImage_any s _ _ _ _ (HM.out.al _).gp (HM.out.al _).st).mono ?_; rintro e w6 hor; obtain ⟨_, rfl, hb6⟩ := hor.resolve_left (fun h => HI.out h.1); have HE := Hid.mk2 ((HM.out.al _).below hb6).bl; have hZ := (Blk.new w5 _ _).below hb6 (by simp); have r0 := hZ.cell 0; have r1 := hZ.cell 1; have r2 := hZ.cell 2))
      go_ret
      exact ⟨HE.out, rfl⟩
end Go.Proofs.YtffpmkgjnjdbaabDoor
