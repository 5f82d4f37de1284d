/-
  slotskeep.images: bytes that are no image are not loaded.
-/
import Derived.Test.YtjjbmbjmdgoofaaGreatDoorG46
import Derived.Test.YtjjbmbjmdgoofaaGreatDoorG48
import Derived.Test.YtjjbmbjmdgoofaaGreatDoorG23
set_option linter.unusedVariables false
set_option linter.unusedSimpArgs false
namespace Go.Proofs.YtjjbmbjmdgoofaaGreatDoor
open Go.RowKit Go.Deep
theorem below10 {P : Nat → Prop} (h0 : P 0) (h1 : P 1) (h2 : P 2) (h3 : P 3) (h4 : P 4) (h5 : P 5) (h6 : P 6) (h7 : P 7) (h8 : P 8) (h9 : P 9) : ∀ i, i < 10 → P i := fun i hi => by
  match i, hi with
  | 0, _ => exact h0
  | 1, _ => exact h1
  | 2, _ => exact h2
  | 3, _ => exact h3
  | 4, _ => exact h4
  | 5, _ => exact h5
  | 6, _ => exact h6
  | 7, _ => exact h7
  | 8, _ => exact h8
  | 9, _ => exact h9
def badI (i : Nat) : ByteArray := ([bsN [], bsN [83, 76], bsN [83, 76, 0], bsN [83, 77, 0, 17], bsN [83, 76, 0, 17, 17], bsN [83, 76, 9, 16], bsN [83, 76, 9, 18], bsN [83, 76, 9, 1, 7, 16], bsN [83, 76, 9, 13, 0, 0], bsN [83, 76, 9, 13, 1, 0, 17]] : List ByteArray).getD i { data := #[] }
theorem hd_none {s : ByteArray} (h : bt s 0 ≠ 83 ∨ bt s 1 ≠ 76 ∨ s.size < 4) : ¬ IsImg s := by
  rintro ⟨⟨h1, _, h3, h4⟩, _⟩
  rcases h with h | h | h
  · exact h h3
  · exact h h4
  · omega
theorem none4 : ¬ IsImg (bsN [83, 76, 0, 17, 17]) := by
  have hb : bt (bsN [83, 76, 0, 17, 17]) 3 = 17 := by kernel_rfl
  have hno : ∀ q, ¬ Flows (mkIns (bsN [83, 76, 0, 17, 17]) 3) q := fun q hf => by
    have ho : (mkIns (bsN [83, 76, 0, 17, 17]) 3).op = 17 := hb
    rcases hf with ⟨_, _, h, _⟩ | ⟨h, _⟩
    · exact h ho
    · rw [ho] at h; omega
  have hn : (mkIns (bsN [83, 76, 0, 17, 17]) 3).next = 4 := by kernel_rfl
  have h := (found_start (bsN [83, 76, 0, 17, 17]) (bt (bsN [83, 76, 0, 17, 17]) 2)).step (H' := fun q => if q = 3 then 0 else -1)
    ⟨by decide, by rw [hb]; decide, by rw [hb]; decide, by rw [hb]; decide⟩ (by rw [hb]; decide) (fun i h1 h2 => by rw [hn] at h2; omega) (fun q hf => absurd hf (hno q)) (fun q _ => rfl)
  rw [hn] at h
  exact h.bad_none (by decide) rfl
theorem badI_none : ∀ i, i < 10 → ¬ IsImg (badI i) := below10
  (hd_none (.inr (.inr (by decide))))
  (hd_none (.inr (.inr (by decide))))
  (hd_none (.inr (.inr (by decide))))
  (hd_none (.inr (.inl (by show bt (bsN [83, 77, 0, 17]) 1 ≠ 76; rw [show bt (bsN [83, 77, 0, 17]) 1 = 77 by kernel_rfl]; decide))))
  none4
  ((found_start (bsN [83, 76, 9, 16]) _).bad_low (by decide) (by decide) (by rw [show bt (bsN [83, 76, 9, 16]) 3 = 16 by kernel_rfl]; decide))
  ((found_start (bsN [83, 76, 9, 18]) _).bad_op (by decide) (fun h => absurd h.2.1 (by rw [show bt (bsN [83, 76, 9, 18]) 3 = 18 by kernel_rfl]; decide)))
  ((found_start (bsN [83, 76, 9, 1, 7, 16]) _).bad_op (by decide) (fun h => absurd (h.2.2.2 (by kernel_rfl)) (by rw [show bt (bsN [83, 76, 9, 1, 7, 16]) (3 + 1) = 7 by kernel_rfl]; decide)))
  ((found_start (bsN [83, 76, 9, 13, 0, 0]) _).bad_flow (q := 6) (by decide) (by decide) (.inr ⟨.inl (by kernel_rfl), by kernel_rfl⟩) (.inl (by decide)))
  ((found_start (bsN [83, 76, 9, 13, 1, 0, 17]) _).bad_flow (q := 7) (by decide) (by decide) (.inr ⟨.inl (by kernel_rfl), by kernel_rfl⟩) (.inl (by decide)))
def imVs (I3 : ByteArray) : Array Value := #[.string { data := #[] }, .string { data := #[83, 76] }, .string I3, .string (({ data := #[83, 77] } : ByteArray) ++ bsN [0] ++ bsN [17]), .string (bsN [83, 76, 0, 17] ++ bsN [17]), .string (({ data := #[83, 76] } : ByteArray) ++ bsN [9] ++ bsN [16]), .string (({ data := #[83, 76] } : ByteArray) ++ bsN [9] ++ bsN [18]), .string (({ data := #[83, 76] } : ByteArray) ++ bsN [9] ++ bsN [1] ++ bsN [7] ++ bsN [16]), .string (({ data := #[83, 76] } : ByteArray) ++ bsN [9] ++ bsN [13] ++ bsN [0, 0]), .string (({ data := #[83, 76] } : ByteArray) ++ bsN [9] ++ bsN [13] ++ bsN [1, 0] ++ bsN [17])]
theorem imVs_at : ∀ i, i < 10 → (imVs (bsN [83, 76, 0]))[i]? = some (.string (badI i)) := below10
  rfl rfl rfl (by show some (Value.string (({ data := #[83, 77] } : ByteArray) ++ bsN [0] ++ bsN [17])) = some (Value.string (bsN [83, 77, 0, 17])); rw [show ({ data := #[83, 77] } : ByteArray) = bsN [83, 77] from rfl, bsN_append, bsN_append]; rfl) (by show some (Value.string (bsN [83, 76, 0, 17] ++ bsN [17])) = some (Value.string (bsN [83, 76, 0, 17, 17])); rw [bsN_append]; rfl) (by show some (Value.string (({ data := #[83, 76] } : ByteArray) ++ bsN [9] ++ bsN [16])) = some (Value.string (bsN [83, 76, 9, 16])); rw [show ({ data := #[83, 76] } : ByteArray) = bsN [83, 76] from rfl, bsN_append, bsN_append]; rfl) (by show some (Value.string (({ data := #[83, 76] } : ByteArray) ++ bsN [9] ++ bsN [18])) = some (Value.string (bsN [83, 76, 9, 18])); rw [show ({ data := #[83, 76] } : ByteArray) = bsN [83, 76] from rfl, bsN_append, bsN_append]; rfl) (by show some (Value.string (({ data := #[83, 76] } : ByteArray) ++ bsN [9] ++ bsN [1] ++ bsN [7] ++ bsN [16])) = some (Value.string (bsN [83, 76, 9, 1, 7, 16])); rw [show ({ data := #[83, 76] } : ByteArray) = bsN [83, 76] from rfl, bsN_append, bsN_append, bsN_append, bsN_append]; rfl) (by show some (Value.string (({ data := #[83, 76] } : ByteArray) ++ bsN [9] ++ bsN [13] ++ bsN [0, 0])) = some (Value.string (bsN [83, 76, 9, 13, 0, 0])); rw [show ({ data := #[83, 76] } : ByteArray) = bsN [83, 76] from rfl, bsN_append, bsN_append, bsN_append]; rfl) (by show some (Value.string (({ data := #[83, 76] } : ByteArray) ++ bsN [9] ++ bsN [13] ++ bsN [1, 0] ++ bsN [17])) = some (Value.string (bsN [83, 76, 9, 13, 1, 0, 17])); rw [show ({ data := #[83, 76] } : ByteArray) = bsN [83, 76] from rfl, bsN_append, bsN_append, bsN_append, bsN_append]; rfl)
theorem past0 (w : World) : Calls Tryz.prog 43 #[.int .i64 0] w fun e w' => e = .returned (.string (bsN [0, 0])) ∧ Below w.heap.size w w' := past_any 0 (by omega) w
theorem past1 (w : World) : Calls Tryz.prog 43 #[.int .i64 1] w fun e w' => e = .returned (.string (bsN [1, 0])) ∧ Below w.heap.size w w' := past_any 1 (by omega) w
theorem im_next {w wx w' : World} (h : Below w.heap.size w wx) (hb : Below wx.heap.size wx w') : Below w.heap.size w w' := h.trans (hb.mono h.size)
theorem im_dr {w wx : World} (h : Below w.heap.size w wx) : Below w.heap.size w wx.drew := below_drewN h 1
structure ImSt (w wx : World) (gb : Nat) : Prop where
  tx : Blk wx gb (imVs (bsN [83, 76, 0])) 9
  bl : Below w.heap.size w wx
theorem ImSt.below {w wx w' : World} {gb : Nat} (h : ImSt w wx gb) (hb : Below wx.heap.size wx w') : ImSt w w' gb :=
  ⟨h.tx.below hb h.tx.lt, h.bl.trans (hb.mono h.bl.size)⟩
theorem ImSt.c {w wx : World} {gb : Nat} (h : ImSt w wx gb) {i : Nat} (hi : i < 10) : wx.cell? ⟨gb, i, none⟩ = some (.string (badI i)) := by rw [h.tx.cell, imVs_at i hi]
theorem im_done {w wx : World} {I3 : ByteArray} (h3 : I3 = bsN [83, 76, 0]) (h : Below w.heap.size w wx) : ImSt w (wx.alloc (.cells (imVs I3) 9)) wx.heap.size := by
  subst h3
  exact ⟨Blk.new wx _ _, h.alloc h.size _⟩
set_option maxHeartbeats 8000000 in
set_option maxRecDepth 100000 in
theorem images_any (sb : Nat) (v : Value) (im : ByteArray) (w : World) (hg : GlobP w) (h : Blk w sb #[v, .string im] 82) :
    Calls Tryz.prog 21 #[.pointer (some ⟨sb, 0, none⟩)] w fun e w' => e = .returned (.bool true) ∧ Below w.heap.size w w' := by
  have HG := Hid.mk2 hg
  have HS := Hid.mk2 h
  have HQ := Hid.mk2 (Below.refl w.heap.size w)
  clear hg h
  have z0 : (bsN [0]).size = 1 := bsN_len _
  have z17 : (bsN [17]).size = 1 := bsN_len _
  have z9 : (bsN [9]).size = 1 := bsN_len _
  have z16 : (bsN [16]).size = 1 := bsN_len _
  have z18 : (bsN [18]).size = 1 := bsN_len _
  have z1 : (bsN [1]).size = 1 := bsN_len _
  have z7 : (bsN [7]).size = 1 := bsN_len _
  have z13 : (bsN [13]).size = 1 := bsN_len _
  have za : (bsN [0, 0]).size = 2 := bsN_len _
  have zb : (bsN [1, 0]).size = 2 := bsN_len _
  have zc : (bsN [83, 76, 0, 17]).size = 4 := bsN_len _
  obtain ⟨I3, hI3⟩ : ∃ I3, I3 = bsN [83, 76, 0] := ⟨_, rfl⟩
  have hsl : ∀ wx : World, (Instr.slice 9 (.string (bsN [83, 76, 0, 17])) none (some (.int .i64 3)) none).run Tryz.prog wx = .ok (.string I3) wx := by
    intro wx
    rw [run_slice_string_h wx 9 (bsN [83, 76, 0, 17]) Tryz.underlying9 .i64 _ (by omega) (by rw [zc]; decide), hI3]
    rfl
  have HI3 := Hid.mk2 hI3
  clear hI3
  go_enter Tryz.func21, Tryz.ntmps21
  go_upto_region 1 with fail
  go_cut [3] (fun s3 wx => ∃ gb, s3 = .slice (some ⟨gb, 0, none⟩) 10 10 ∧ ImSt w wx gb)
  case first =>
    go_region_with (first
          | (go_at_call_of 42 (Value.int IntKind.i64 0); refine (op_any 0 (by omega) _).mono ?_; rintro e w0x ⟨rfl, hbx⟩; have hz : Below w.heap.size w w0x := (by first | with_reducible exact im_next HQ.out hbx | with_reducible exact im_next (im_dr HQ.out) hbx); replace HQ := Hid.mk2 hz; clear hbx hz)
          | (go_at_call_of 42 (Value.int IntKind.i64 17); refine (op_any 17 (by omega) _).mono ?_; rintro e w17x ⟨rfl, hbx⟩; have hz : Below w.heap.size w w17x := (by first | with_reducible exact im_next HQ.out hbx | with_reducible exact im_next (im_dr HQ.out) hbx); replace HQ := Hid.mk2 hz; clear hbx hz)
          | (go_at_call_of 42 (Value.int IntKind.i64 9); refine (op_any 9 (by omega) _).mono ?_; rintro e w9x ⟨rfl, hbx⟩; have hz : Below w.heap.size w w9x := (by first | with_reducible exact im_next HQ.out hbx | with_reducible exact im_next (im_dr HQ.out) hbx); replace HQ := Hid.mk2 hz; clear hbx hz)
          | (go_at_call_of 42 (Value.int IntKind.i64 16); refine (op_any 16 (by omega) _).mono ?_; rintro e w16x ⟨rfl, hbx⟩; have hz : Below w.heap.size w w16x := (by first | with_reducible exact im_next HQ.out hbx | with_reducible exact im_next (im_dr HQ.out) hbx); replace HQ := Hid.mk2 hz; clear hbx hz)
          | (go_at_call_of 42 (Value.int IntKind.i64 18); refine (op_any 18 (by omega) _).mono ?_; rintro e w18x ⟨rfl, hbx⟩; have hz : Below w.heap.size w w18x := (by first | with_reducible exact im_next HQ.out hbx | with_reducible exact im_next (im_dr HQ.out) hbx); replace HQ := Hid.mk2 hz; clear hbx hz)
          | (go_at_call_of 42 (Value.int IntKind.i64 1); refine (op_any 1 (by omega) _).mono ?_; rintro e w1x ⟨rfl, hbx⟩; have hz : Below w.heap.size w w1x := (by first | with_reducible exact im_next HQ.out hbx | with_reducible exact im_next (im_dr HQ.out) hbx); replace HQ := Hid.mk2 hz; clear hbx hz)
          | (go_at_call_of 42 (Value.int IntKind.i64 7); refine (op_any 7 (by omega) _).mono ?_; rintro e w7x ⟨rfl, hbx⟩; have hz : Below w.heap.size w w7x := (by first | with_reducible exact im_next HQ.out hbx | with_reducible exact im_next (im_dr HQ.out) hbx); replace HQ := Hid.mk2 hz; clear hbx hz)
          | (go_at_call_of 42 (Value.int IntKind.i64 13); refine (op_any 13 (by omega) _).mono ?_; rintro e w13x ⟨rfl, hbx⟩; have hz : Below w.heap.size w w13x := (by first | with_reducible exact im_next HQ.out hbx | with_reducible exact im_next (im_dr HQ.out) hbx); replace HQ := Hid.mk2 hz; clear hbx hz)
          | (go_at_call_of 43 (Value.int IntKind.i64 0); refine (past0 _).mono ?_; rintro e wp0 ⟨rfl, hbx⟩; have hz : Below w.heap.size w wp0 := (by first | with_reducible exact im_next HQ.out hbx | with_reducible exact im_next (im_dr HQ.out) hbx); replace HQ := Hid.mk2 hz; clear hbx hz)
          | (go_at_call_of 43 (Value.int IntKind.i64 1); refine (past1 _).mono ?_; rintro e wp1 ⟨rfl, hbx⟩; have hz : Below w.heap.size w wp1 := (by first | with_reducible exact im_next HQ.out hbx | with_reducible exact im_next (im_dr HQ.out) hbx); replace HQ := Hid.mk2 hz; clear hbx hz)
          | (go_at_call 41; refine (simple_any _).mono ?_; rintro e ws ⟨rfl, hbx⟩; have hz : Below w.heap.size w ws := (by first | with_reducible exact im_next HQ.out hbx | with_reducible exact im_next (im_dr HQ.out) hbx); replace HQ := Hid.mk2 hz; clear hbx hz))
    all_goals
      go_wp2_with fail
      go_meet
      case rel => exact ⟨_, rfl, by first | exact im_done HI3.out HQ.out | exact im_done HI3.out (im_dr HQ.out)⟩
  case rest =>
    obtain ⟨gb, rfl, him⟩ := hcut
    clear HQ HI3 hsl
    have HM := Hid.mk2 him
    clear him
    go_wp2
    go_loopw [4] (fun vi wr => ∃ i : Nat, i ≤ 10 ∧ vi = .int .i64 i ∧ ImSt w wr gb) (fun i _ => 10 - (intOf i).toNat)
    case atStart => exact ⟨0, by omega, rfl, HM.out⟩
    case round =>
      obtain ⟨i, hi, rfl, hq⟩ := hrel
      clear HM
      have HM := Hid.mk2 hq
      have hs0 := hq.tx.lt
      clear hq
      by_cases hlt : i < 10
      · have HN := Hid.mk2 (badI_none i hlt)
        have c0 := HM.out.c hlt
        generalize badI i = B at *
        go_wp2_with (go_at_call 19; refine (LoadImage_any B sb v im _ (HG.out.below HM.out.bl) (HS.out.below HM.out.bl HS.out.lt)).mono ?_; rintro e w1 hor; obtain ⟨_, rfl, hb1⟩ := hor.resolve_left (fun h => HN.out h.1); replace HM := Hid.mk2 (HM.out.below hb1); clear hb1 hor c0)
        go_roundw
        case rel => exact ⟨i + 1, by omega, by go_num, HM.out⟩
        case measure => simp [intOf]; omega
      · go_wp2
        go_ret
        exact ⟨rfl, HM.out.bl⟩
end Go.Proofs.YtjjbmbjmdgoofaaGreatDoor
