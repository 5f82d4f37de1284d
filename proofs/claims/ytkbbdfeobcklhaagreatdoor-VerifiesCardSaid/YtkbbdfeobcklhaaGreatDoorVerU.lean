/-
  The program's IsImage and Verify: are some bytes an image?
-/
import Derived.Test.YtkbbdfeobcklhaaGreatDoorVerT
import Derived.Deep.LoopGhost
set_option linter.unusedVariables false
set_option linter.unusedSimpArgs false
namespace Go.Proofs.YtkbbdfeobcklhaaGreatDoor
open Go.RowKit

theorem VSt.congr {w : World} {vb hb : Nat} {s : ByteArray} {most : Nat} {H H' : Nat → Int} {wg : Bool} (h : VSt w vb hb s most H wg) (he : ∀ q, q < s.size → H q = H' q) : VSt w vb hb s most H' wg :=
  ⟨h.st, by rw [← arrH_congr he]; exact h.ht, h.ne⟩
def clearH (i : Nat) : Nat → Int := fun q => if q < i then -1 else 0
def firstH : Nat → Int := fun q => if q = 3 then 0 else -1
theorem start_reach (s : ByteArray) (hs : 3 < s.size) : reachH s (bt s 2) (fun _ => -1) 3 0 = firstH ∧ reachW s (bt s 2) (fun _ => -1) false 3 0 = false := by
  constructor
  · unfold reachH
    rw [if_neg (by omega)]
    rfl
  · unfold reachW
    rw [decide_eq_false (by simp; omega)]; rfl
set_option maxHeartbeats 2000000 in
set_option maxRecDepth 100000 in
theorem IsImage_any (s : ByteArray) (w : World) (hg : GlobP w) :
    Calls Tryz.prog 38 #[.string s] w fun e w' => Below w.heap.size w w' ∧ ((IsImg s ∧ e = .returned (.bool true)) ∨ (¬ IsImg s ∧ e = .returned (.bool false))) := by
  obtain ⟨i0, hin, hz0, hz1, hz2⟩ := info_parts Tryz.infoInt
  by_cases hh : HeadOk s
  case neg =>
    have HH : Hid (¬ HeadOk s) := hh
    have hd : headB s = false := headB_false hh
    clear hh
    go_enter Tryz.func38, Tryz.ntmps38
    go_wp2_with (go_at_call 73; refine (hasHead_any s _).mono ?_; rintro e w' ⟨rfl, rfl⟩; rw [hd])
    go_ret
    exact ⟨Below.refl _ _, .inr ⟨fun h => HH.out h.1, rfl⟩⟩
  have HH : Hid (HeadOk s) := hh
  have hd : headB s = true := (headB_iff s).2 hh
  have hs4 : s.size ≤ 4000 := hh.2.1
  have hs3 : 3 < s.size := hh.1
  have hmk := fun wx => run_make_ints (P := Tryz.prog) wx 40 3 i0 Tryz.underlying40 hin hz0 hz1 hz2 s.size hs4
  have hix := fun wx => run_index_nat (P := Tryz.prog) wx 9 s .i64 2 2 Tryz.underlying9 rfl (by omega)
  have HM : Hid (s[2].toNat = bt s 2) := (bt_get s 2 (by omega)).symm
  obtain ⟨m, hm⟩ : ∃ m, m = (s[2]'(by omega)).toNat := ⟨_, rfl⟩
  rw [← hm] at hix HM
  have hm256 : m < 256 := by rw [hm]; exact UInt8.toNat_lt _
  have HG : Hid (GlobP w) := hg
  clear hh hm hg
  go_enter Tryz.func38, Tryz.ntmps38
  go_wp2_with (go_at_call 73; refine (hasHead_any s _).mono ?_; rintro e w' ⟨rfl, rfl⟩; rw [hd])
  go_region
  have hM := HM.out
  subst hM
  have hst0 : VSt ((w'.alloc (.cells (arrH (fun _ => 0) s.size) 3)).alloc (.cells (verCells s (bt s 2) w'.heap.size false) 133)) (w'.heap.size + 1) w'.heap.size s (bt s 2) (clearH 0) false := by
    refine ⟨?_, ?_, by omega⟩
    · have := Blk.new (w'.alloc (.cells (arrH (fun _ => 0) s.size) 3)) (verCells s (bt s 2) w'.heap.size false) 133
      simpa using this
    · have e : arrH (clearH 0) s.size = arrH (fun _ => 0) s.size := arrH_congr (fun q _ => by simp [clearH])
      rw [e]
      exact (Blk.new w' (arrH (fun _ => 0) s.size) 3).alloc (.cells (verCells s (bt s 2) w'.heap.size false) 133)
  have HS0 := Hid.mk' hst0
  have HB0 := Hid.mk' (((box3 w' (.cells (arrH (fun _ => 0) s.size) 3))).trans ((box3 (w'.alloc (.cells (arrH (fun _ => 0) s.size) 3)) (.cells (verCells s (bt s 2) w'.heap.size false) 133)).mono (by simp)))
  clear hst0
  go_wp2
  go_loopw [4] (fun vi wx => ∃ i : Nat, i ≤ s.size ∧ vi = .int .i64 i ∧ VSt wx (w'.heap.size + 1) w'.heap.size s (bt s 2) (clearH i) false ∧ Below w'.heap.size w' wx) (fun i _ => s.size - (intOf i).toNat)
  case atStart => exact ⟨0, Nat.zero_le _, rfl, HS0.out.drew, HB0.out.drew⟩
  case round =>
    clear HS0 HB0
    obtain ⟨i, hil, rfl, hst, hbl⟩ := hrel
    have HV := Hid.mk' hst
    have c2 := hst.c2
    clear hst
    by_cases hi : i < s.size
    · have cx := HV.out.cH i hi
      have fx := HV.out.ht.free i
      go_wp2
      go_roundw
      case rel => exact ⟨i + 1, by omega, by go_num, (HV.out.put i (-1)).congr (fun q hq => by
        unfold upd clearH
        by_cases h : q = i
        · rw [if_pos h, if_pos (by omega)]
        · rw [if_neg h]
          by_cases h2 : q < i
          · rw [if_pos h2, if_pos (by omega)]
          · rw [if_neg h2, if_neg (by omega)]), hbl.setCell (p := ⟨w'.heap.size, i, none⟩) (Nat.le_refl _) _⟩
      case measure => simp [intOf]; omega
    · have HV2 : Hid (VSt wr (w'.heap.size + 1) w'.heap.size s (bt s 2) (fun _ => -1) false) := HV.out.congr (fun q hq => by unfold clearH; rw [if_pos (by omega)])
      have HG2 : Hid (GlobP wr) := HG.out.below hbl
      obtain ⟨hr1, hr2⟩ := start_reach s hs3
      have HR1 := Hid.mk' hr1
      have HR2 := Hid.mk' hr2
      clear HV hr1 hr2
      go_wp2_with (go_at_call 74; refine (reach_any hs4 w'.heap.size ⟨by omega, Nat.le_refl _⟩ 3 0 HV2.out).mono ?_; rintro e w3 ⟨rfl, hv3, hbl3, hsz3, ho3⟩; rw [HR1.out, HR2.out] at hv3; have HV3 := Hid.mk' hv3; clear hv3)
      go_loopg [5] (s.size + 1 - 3) (fun k vp wx => ∃ (p : Nat) (H : Nat → Int) (wg : Bool), vp = .int .i64 p ∧ p ≤ s.size ∧ VSt wx (w'.heap.size + 1) w'.heap.size s (bt s 2) H wg ∧ Below w'.heap.size w' wx ∧ Looked s p H wg ∧ (wg = false → k = s.size + 1 - p))
      case atStart => exact ⟨3, firstH, false, rfl, by omega, HV3.out, hbl.trans hbl3, .inr ⟨rfl, [], found_start s (bt s 2)⟩, fun _ => rfl⟩
      case round =>
        clear HV2 HV3 HR1 HR2 hbl3 hsz3 ho3 HG2
        obtain ⟨p, H, wg, rfl, hps, hst, hbl', hlk, hk⟩ := hrel
        have HV := Hid.mk' hst
        have HL := Hid.mk' hlk
        have HK := Hid.mk' hk
        have c3 := hst.c3
        clear hst hlk hk
        cases wg
        case true =>
          have HN : Hid (¬ IsImg s) := (by rcases HL.out with ⟨_, h⟩ | ⟨h, _⟩; exact h; exact absurd h (by decide) : ¬ IsImg s)
          go_wp2
          go_ret
          exact ⟨hbl', .inr ⟨HN.out, rfl⟩⟩
        case false =>
          have HFo : Hid (∃ l, Found s (bt s 2) H p l) := (by rcases HL.out with ⟨h, _⟩ | ⟨_, h⟩; exact absurd h (by decide); exact h : ∃ l, Found s (bt s 2) H p l)
          by_cases hlt : p < s.size
          · obtain ⟨l, hl⟩ := HFo.out
            have HF := Hid.mk' hl
            clear hl HFo
            go_wp2_with (go_at_call 75; refine (look_any s hs4 p hlt _ w'.heap.size (w'.heap.size + 1) w'.heap.size ⟨by omega, Nat.le_refl _⟩ HG.out.size H HV.out (HG.out.below hbl') l HF.out).mono ?_; rintro e w4 ⟨hbl4, nx, H', wg', rfl, hv4, hpn, hns, hlk4⟩; have HV4 := Hid.mk' hv4; have HL4 := Hid.mk' hlk4; clear hv4 hlk4)
            go_roundg (if wg' = true then 0 else s.size + 1 - nx)
            case measure =>
              have : gk = s.size + 1 - p := (by first | exact HK.out rfl | exact HK.out trivial)
              split <;> omega
            case rel => exact ⟨nx, H', wg', rfl, hns, HV4.out, hbl'.trans hbl4, HL4.out, fun h => by rw [if_neg (by simp [h])]⟩
          · have hpe : p = s.size := by omega
            have HI : Hid (IsImg s) := (by
              obtain ⟨l, hl⟩ := HFo.out
              rw [hpe] at hl
              exact ⟨HH.out, l, hl.chain, H, hl.lawful⟩ : IsImg s)
            clear hpe
            go_wp2
            go_ret
            exact ⟨hbl', .inl ⟨HI.out, rfl⟩⟩

set_option maxHeartbeats 1000000 in
theorem Verify_any (s : ByteArray) (w : World) (hg : GlobP w) :
    Calls Tryz.prog 17 #[.string s] w fun e w' => Below w.heap.size w w' ∧ ((IsImg s ∧ e = .returned (.int .i64 0)) ∨ (¬ IsImg s ∧ e = .returned (.int .i64 7))) := by
  go_enter Tryz.func17, Tryz.ntmps17
  go_wp2_with (go_at_call 38; refine (IsImage_any s _ hg).mono ?_; rintro e w1 ⟨hb1, ⟨hi, rfl⟩ | ⟨hi, rfl⟩⟩)
  · go_ret
    exact ⟨hb1, .inl ⟨hi, rfl⟩⟩
  · go_ret
    exact ⟨hb1, .inr ⟨hi, rfl⟩⟩
end Go.Proofs.YtkbbdfeobcklhaaGreatDoor
