/-
  slotskeep.policies: what may not be loaded is not, and the error and its place are told.
-/
import Derived.Test.YtjjbmbjmdgoofaaGreatDoorG46
import Derived.Test.YtjjbmbjmdgoofaaGreatDoorG23
import Derived.Test.YtjjbmbjmdgoofaaGreatDoorG38
import Derived.Test.YtjjbmbjmdgoofaaGreatDoorG43
import Derived.Laws.AppendOwnNone
import Derived.Test.YtjjbmbjmdgoofaaGreatDoorG41
import Derived.Deep.LoopGhost
set_option linter.unusedVariables false
set_option linter.unusedSimpArgs false
namespace Go.Proofs.YtjjbmbjmdgoofaaGreatDoor
open Go.RowKit Go.Deep
def polVs : Array Value := #[.string (bsOf f0T), .string (bsOf f1T), .string (bsOf f2T), .string (bsOf f3T), .string (bsOf f4T), .string (bsOf f5T), .string (bsOf f6T), .string (bsOf f7T), .string (bsOf f8T), .string (bsOf f9T), .string (bsOf f10T), .string (bsOf f11T)]
def polCs : Array Value := #[.int .i64 3, .int .i64 3, .int .i64 2, .int .i64 4, .int .i64 4, .int .i64 5, .int .i64 5, .int .i64 5, .int .i64 4, .int .i64 3, .int .i64 3, .int .i64 2]
def polPs : Array Value := #[.int .i64 0, .int .i64 7, .int .i64 9, .int .i64 6, .int .i64 15, .int .i64 6, .int .i64 5, .int .i64 8, .int .i64 8, .int .i64 8, .int .i64 14, .int .i64 6]
structure PoSt (w wx : World) : Prop where
  tx : Blk wx w.heap.size polVs 9
  cs : Blk wx (w.heap.size + 1) polCs 37
  ps : Blk wx (w.heap.size + 2) polPs 3
  bl : Below w.heap.size w wx
theorem PoSt.below {w wx w' : World} (h : PoSt w wx) (hb : Below wx.heap.size wx w') : PoSt w w' :=
  ⟨h.tx.below hb h.tx.lt, h.cs.below hb h.cs.lt, h.ps.below hb h.ps.lt, h.bl.trans (hb.mono h.bl.size)⟩
theorem polVs_at : ∀ i, i < 12 → polVs[i]? = some (.string (bsOf (polT i))) := below12 rfl rfl rfl rfl rfl rfl rfl rfl rfl rfl rfl rfl
theorem polCs_at : ∀ i, i < 12 → polCs[i]? = some (.int .i64 (polC i : Nat)) := below12 rfl rfl rfl rfl rfl rfl rfl rfl rfl rfl rfl rfl
theorem polPs_at : ∀ i, i < 12 → polPs[i]? = some (.int .i64 (polP i : Nat)) := below12 rfl rfl rfl rfl rfl rfl rfl rfl rfl rfl rfl rfl
theorem PoSt.c0 {w wx : World} (h : PoSt w wx) {i : Nat} (hi : i < 12) : wx.cell? ⟨w.heap.size, i, none⟩ = some (.string (bsOf (polT i))) := by rw [h.tx.cell, polVs_at i hi]
theorem PoSt.c1 {w wx : World} (h : PoSt w wx) {i : Nat} (hi : i < 12) : wx.cell? ⟨w.heap.size + 1, i, none⟩ = some (.int .i64 (polC i : Nat)) := by rw [h.cs.cell, polCs_at i hi]
theorem PoSt.c2 {w wx : World} (h : PoSt w wx) {i : Nat} (hi : i < 12) : wx.cell? ⟨w.heap.size + 2, i, none⟩ = some (.int .i64 (polP i : Nat)) := by rw [h.ps.cell, polPs_at i hi]
theorem PoSt.start (w : World) : PoSt w (((w.alloc (.cells polVs 9)).alloc (.cells polCs 37)).alloc (.cells polPs 3)) := by
  have a2 := Blk.new (w.alloc (.cells polVs 9)) polCs 37
  have a3 := Blk.new ((w.alloc (.cells polVs 9)).alloc (.cells polCs 37)) polPs 3
  rw [show (w.alloc (.cells polVs 9)).heap.size = w.heap.size + 1 by simp] at a2
  rw [show ((w.alloc (.cells polVs 9)).alloc (.cells polCs 37)).heap.size = w.heap.size + 2 by simp] at a3
  exact ⟨((Blk.new w _ _).alloc _).alloc _, a2.alloc _, a3, (((Below.refl _ w).alloc (Nat.le_refl _) _).alloc (by simp) _).alloc (by simp; omega) _⟩
theorem long_bad {T : ByteArray} (h : 400 < T.size) : tokened T.toList = .bad 1 0 := by
  unfold tokened
  rw [if_pos (by rw [toList_length]; exact h)]
def fbB : ByteArray := bsOf fbT
def fsB : ByteArray := bsOf fsT
theorem fb_in : Pinned fbB.toList 6 0 := by unfold fbB; rw [bsOf_toList]; exact fb_pin
theorem fs_in : Pinned fsB.toList 0 0 := by unfold fsB; rw [bsOf_toList]; exact fs_pin
theorem fb_len : fbB.size ≤ maxLen := by decide
theorem fs_len : fsB.size ≤ maxLen := by decide
set_option maxHeartbeats 4000000 in
set_option maxRecDepth 100000 in
theorem policies_any (q : Addr) (w : World) (hgt : GlobT w) :
    Calls Tryz.prog 20 #[.pointer (some q)] w fun e w' => e = .returned (.bool true) ∧ Below w.heap.size w w' := by
  have HT := Hid.mk2 hgt
  clear hgt
  go_enter Tryz.func20, Tryz.ntmps20
  go_wp2
  go_loopw [6] (fun vi wr => ∃ i : Nat, i ≤ 12 ∧ vi = .int .i64 i ∧ PoSt w wr) (fun i _ => 12 - (intOf i).toNat)
  case atStart => exact ⟨0, by omega, rfl, PoSt.start w⟩
  case round =>
    obtain ⟨i, hi, rfl, hq⟩ := hrel
    have HQ := Hid.mk2 hq
    have hs0 := hq.tx.lt
    have hs1 := hq.cs.lt
    have hs2 := hq.ps.lt
    clear hq
    by_cases hlt : i < 12
    · have HI := Hid.mk2 hlt
      have HPN : Hid (Pinned (bsOf (polT i)).toList ((polC i : Nat) : Int) (polP i)) := by rw [Hid, bsOf_toList]; exact pol_pin i hlt
      have HCN := Hid.mk2 (pol_code i hlt)
      have HLN := Hid.mk2 (pol_len i hlt)
      have c0 := HQ.out.c0 HI.out; have c1 := HQ.out.c1 HI.out; have c2 := HQ.out.c2 HI.out
      have HC0 : Hid (∀ wx, PoSt w wx → wx.cell? ⟨w.heap.size, i, none⟩ = some (.string (bsOf (polT i))) ∧ wx.cell? ⟨w.heap.size + 1, i, none⟩ = some (.int .i64 (polC i : Nat)) ∧ wx.cell? ⟨w.heap.size + 2, i, none⟩ = some (.int .i64 (polP i : Nat))) := fun wx h => ⟨h.c0 hlt, h.c1 hlt, h.c2 hlt⟩
      generalize bsOf (polT i) = T at *
      generalize hC : ((polC i : Nat) : Int) = C at *
      generalize polP i = Pp at *
      clear hC
      go_wp2_with (first
        | (go_at_call 14; refine (Load_pin T q _ (HT.out.below HQ.out.bl) HLN.out HPN.out HCN.out).mono ?_; rintro e w1 ⟨hb1, rfl⟩; replace HQ := Hid.mk2 (HQ.out.below hb1); clear hb1 c0 c1 c2; obtain ⟨c0, c1, c2⟩ := HC0.out _ HQ.out)
        | (go_at_call 11; refine (Check_pin T _ (HT.out.below HQ.out.bl) HLN.out HPN.out).mono ?_; rintro e w2 ⟨hb2, rfl⟩; replace HQ := Hid.mk2 (HQ.out.below hb2); clear hb2 c0 c1 c2; obtain ⟨c0, c1, c2⟩ := HC0.out _ HQ.out)
        | (go_at_call 12; refine (Compile_pin T _ (HT.out.below HQ.out.bl) HLN.out HPN.out HCN.out).mono ?_; rintro e w3 ⟨hb3, rfl⟩; replace HQ := Hid.mk2 (HQ.out.below hb3); clear hb3 c0 c1 c2; obtain ⟨c0, c1, c2⟩ := HC0.out _ HQ.out))
      go_roundw
      case rel => exact ⟨i + 1, by omega, by go_num, HQ.out⟩
      case measure => simp [intOf]; omega
    · go_wp2
      go_loopw [14] (fun v wr => ∃ T : ByteArray, v = .string T ∧ T.size ≤ 401 ∧ PoSt w wr) (fun v _ => match v with | .string T => 402 - T.size | _ => 0)
      case atStart => exact ⟨{ data := #[114, 101, 106, 101, 99, 116, 59] }, rfl, by decide, HQ.out⟩
      case round =>
        obtain ⟨T, rfl, hT, hq⟩ := hrel
        clear HQ hs0 hs1 hs2
        have HQ := Hid.mk2 hq
        clear hq
        by_cases hle : T.size ≤ 400
        · have f1 : (9223372036854775807 < T.size + 1) = False := by simp; omega
          go_wp2
          go_roundw
          case rel => exact ⟨_, rfl, by rw [ByteArray.size_append]; show T.size + 1 ≤ 401; omega, HQ.out⟩
          case measure => simp only [ByteArray.size_append]; show 402 - (T.size + 1) < 402 - T.size; omega
        · have HPT := Hid.mk2 (pinned_bad (long_bad (by omega : 400 < T.size)))
          have HTL : Hid (T.size ≤ maxLen) := by have : 401 ≤ maxLen := by decide
                                                 rw [Hid]; omega
          go_wp2_with (first
            | (go_at_call_of 14 (Value.string T); refine (Load_pin T q _ (HT.out.below HQ.out.bl) HTL.out HPT.out (by decide)).mono ?_; rintro e w4 ⟨hb4, rfl⟩; replace HQ := Hid.mk2 (HQ.out.below hb4); clear hb4)
            | (go_at_call 14; refine (Load_pin fbB q _ (HT.out.below HQ.out.bl) fb_len fb_in (by decide)).mono ?_; rintro e w5 ⟨hb5, rfl⟩; replace HQ := Hid.mk2 (HQ.out.below hb5); clear hb5)
            | (go_at_call 11; refine (Check_pin fsB _ (HT.out.below HQ.out.bl) fs_len fs_in).mono ?_; rintro e w6 ⟨hb6, rfl⟩; replace HQ := Hid.mk2 (HQ.out.below hb6); clear hb6))
          go_ret
          exact ⟨by simp, HQ.out.bl⟩
end Go.Proofs.YtjjbmbjmdgoofaaGreatDoor
namespace Go.Proofs.YtjjbmbjmdgoofaaGreatDoor
open Go.RowKit
end Go.Proofs.YtjjbmbjmdgoofaaGreatDoor
namespace Go.Proofs.YtjjbmbjmdgoofaaGreatDoor
open Go.RowKit
theorem fin_blk {w1 : World} {rb : Nat} {T : TypeId} (h : Blk w1 rb #[.int .i64 0, .int .i64 0, .int .i64 0] T) (k v n : Value) : Blk (((w1.setCell ⟨rb, 0, none⟩ k).setCell ⟨rb, 1, none⟩ v).setCell ⟨rb, 2, none⟩ n) rb #[k, v, n] T := ((h.set 0 k).set 1 v).set 2 n
theorem fin_below {B rb : Nat} {w w1 : World} (h : Below B w w1) (hB : B ≤ rb) (k v n : Value) : Below B w (((w1.setCell ⟨rb, 0, none⟩ k).setCell ⟨rb, 1, none⟩ v).setCell ⟨rb, 2, none⟩ n) := ((h.setCell (p := ⟨rb, 0, none⟩) hB k).setCell (p := ⟨rb, 1, none⟩) hB v).setCell (p := ⟨rb, 2, none⟩) hB n
end Go.Proofs.YtjjbmbjmdgoofaaGreatDoor
namespace Go.Proofs.YtjjbmbjmdgoofaaGreatDoor
open Go.RowKit
theorem VStv.congr {w : World} {vb hb : Nat} {s : ByteArray} {most : Nat} {H H' : Nat → Int} {wg : Bool} (h : VStv w vb hb s most H wg) (he : ∀ q, q < s.size → H q = H' q) : VStv w vb hb s most H' wg :=
  ⟨h.st, by rw [← arrH_congr he]; exact h.ht, h.ne⟩
def clearH (i : Nat) : Nat → Int := fun q => if q < i then -1 else 0
def firstH : Nat → Int := fun q => if q = 3 then 0 else -1
theorem start_reach (s : ByteArray) (hs : 3 < s.size) : reachH s (bt s 2) (fun _ => -1) 3 0 = firstH ∧ reachW s (bt s 2) (fun _ => -1) false 3 0 = false := by
  constructor
  · unfold reachH
    rw [if_neg (by omega)]
    rfl
  · unfold reachW
    rw [decide_eq_false (by simp; omega)]; rfl
set_option maxHeartbeats 2000000 in
set_option maxRecDepth 100000 in
theorem IsImage_any (s : ByteArray) (w : World) (hg : GlobP w) :
    Calls Tryz.prog 40 #[.string s] w fun e w' => Below w.heap.size w w' ∧ ((IsImg s ∧ e = .returned (.bool true)) ∨ (¬ IsImg s ∧ e = .returned (.bool false))) := by
  obtain ⟨i0, hin, hz0, hz1, hz2⟩ := info_parts Tryz.infoInt
  by_cases hh : HeadOk s
  case neg =>
    have HH : Hid (¬ HeadOk s) := hh
    have hd : headB s = false := headB_false hh
    clear hh
    go_enter Tryz.func40, Tryz.ntmps40
    go_wp2_with (go_at_call 69; refine (hasHead_any s _).mono ?_; rintro e w' ⟨rfl, rfl⟩; rw [hd])
    go_ret
    exact ⟨Below.refl _ _, .inr ⟨fun h => HH.out h.1, rfl⟩⟩
  have HH : Hid (HeadOk s) := hh
  have hd : headB s = true := (headB_iff s).2 hh
  have hs4 : s.size ≤ 4000 := hh.2.1
  have hs3 : 3 < s.size := hh.1
  have hmk := fun wx => run_make_ints (P := Tryz.prog) wx 92 3 i0 Tryz.underlying92 hin hz0 hz1 hz2 s.size hs4
  have hix := fun wx => run_index_nat (P := Tryz.prog) wx 9 s .i64 2 2 Tryz.underlying9 rfl (by omega)
  have HM : Hid (s[2].toNat = bt s 2) := (bt_get s 2 (by omega)).symm
  obtain ⟨m, hm⟩ : ∃ m, m = (s[2]'(by omega)).toNat := ⟨_, rfl⟩
  rw [← hm] at hix HM
  have hm256 : m < 256 := by rw [hm]; exact UInt8.toNat_lt _
  have HG : Hid (GlobP w) := hg
  clear hh hm hg
  go_enter Tryz.func40, Tryz.ntmps40
  go_wp2_with (go_at_call 69; refine (hasHead_any s _).mono ?_; rintro e w' ⟨rfl, rfl⟩; rw [hd])
  go_region
  have hM := HM.out
  subst hM
  have hst0 : VStv ((w'.alloc (.cells (arrH (fun _ => 0) s.size) 3)).alloc (.cells (verCells s (bt s 2) w'.heap.size false) 138)) (w'.heap.size + 1) w'.heap.size s (bt s 2) (clearH 0) false := by
    refine ⟨?_, ?_, by omega⟩
    · have := Blk.new (w'.alloc (.cells (arrH (fun _ => 0) s.size) 3)) (verCells s (bt s 2) w'.heap.size false) 138
      simpa using this
    · have e : arrH (clearH 0) s.size = arrH (fun _ => 0) s.size := arrH_congr (fun q _ => by simp [clearH])
      rw [e]
      exact (Blk.new w' (arrH (fun _ => 0) s.size) 3).alloc (.cells (verCells s (bt s 2) w'.heap.size false) 138)
  have HS0 := Hid.mk' hst0
  have HB0 := Hid.mk' (((box3 w' (.cells (arrH (fun _ => 0) s.size) 3))).trans ((box3 (w'.alloc (.cells (arrH (fun _ => 0) s.size) 3)) (.cells (verCells s (bt s 2) w'.heap.size false) 138)).mono (by simp)))
  clear hst0
  go_wp2
  go_loopw [4] (fun vi wx => ∃ i : Nat, i ≤ s.size ∧ vi = .int .i64 i ∧ VStv wx (w'.heap.size + 1) w'.heap.size s (bt s 2) (clearH i) false ∧ Below w'.heap.size w' wx) (fun i _ => s.size - (intOf i).toNat)
  case atStart => exact ⟨0, Nat.zero_le _, rfl, HS0.out.drew, HB0.out.drew⟩
  case round =>
    clear HS0 HB0
    obtain ⟨i, hil, rfl, hst, hbl⟩ := hrel
    have HV := Hid.mk' hst
    have c2 := hst.c2
    clear hst
    by_cases hi : i < s.size
    · have cx := HV.out.cH i hi
      have fx := HV.out.ht.free i
      go_wp2
      go_roundw
      case rel => exact ⟨i + 1, by omega, by go_num, (HV.out.put i (-1)).congr (fun q hq => by
        unfold upd clearH
        by_cases h : q = i
        · rw [if_pos h, if_pos (by omega)]
        · rw [if_neg h]
          by_cases h2 : q < i
          · rw [if_pos h2, if_pos (by omega)]
          · rw [if_neg h2, if_neg (by omega)]), hbl.setCell (p := ⟨w'.heap.size, i, none⟩) (Nat.le_refl _) _⟩
      case measure => simp [intOf]; omega
    · have HV2 : Hid (VStv wr (w'.heap.size + 1) w'.heap.size s (bt s 2) (fun _ => -1) false) := HV.out.congr (fun q hq => by unfold clearH; rw [if_pos (by omega)])
      have HG2 : Hid (GlobP wr) := HG.out.below hbl
      obtain ⟨hr1, hr2⟩ := start_reach s hs3
      have HR1 := Hid.mk' hr1
      have HR2 := Hid.mk' hr2
      clear HV hr1 hr2
      go_wp2_with (go_at_call 70; refine (reach_any hs4 w'.heap.size ⟨by omega, Nat.le_refl _⟩ 3 0 HV2.out).mono ?_; rintro e w3 ⟨rfl, hv3, hbl3, hsz3, ho3⟩; rw [HR1.out, HR2.out] at hv3; have HV3 := Hid.mk' hv3; clear hv3)
      go_loopg [5] (s.size + 1 - 3) (fun k vp wx => ∃ (p : Nat) (H : Nat → Int) (wg : Bool), vp = .int .i64 p ∧ p ≤ s.size ∧ VStv wx (w'.heap.size + 1) w'.heap.size s (bt s 2) H wg ∧ Below w'.heap.size w' wx ∧ LookedV s p H wg ∧ (wg = false → k = s.size + 1 - p))
      case atStart => exact ⟨3, firstH, false, rfl, by omega, HV3.out, hbl.trans hbl3, .inr ⟨rfl, [], found_start s (bt s 2)⟩, fun _ => rfl⟩
      case round =>
        clear HV2 HV3 HR1 HR2 hbl3 hsz3 ho3 HG2
        obtain ⟨p, H, wg, rfl, hps, hst, hbl', hlk, hk⟩ := hrel
        have HV := Hid.mk' hst
        have HL := Hid.mk' hlk
        have HK := Hid.mk' hk
        have c3 := hst.c3
        clear hst hlk hk
        cases wg
        case true =>
          have HN : Hid (¬ IsImg s) := (by rcases HL.out with ⟨_, h⟩ | ⟨h, _⟩; exact h; exact absurd h (by decide) : ¬ IsImg s)
          go_wp2
          go_ret
          exact ⟨hbl', .inr ⟨HN.out, rfl⟩⟩
        case false =>
          have HFo : Hid (∃ l, Found s (bt s 2) H p l) := (by rcases HL.out with ⟨h, _⟩ | ⟨_, h⟩; exact absurd h (by decide); exact h : ∃ l, Found s (bt s 2) H p l)
          by_cases hlt : p < s.size
          · obtain ⟨l, hl⟩ := HFo.out
            have HF := Hid.mk' hl
            clear hl HFo
            go_wp2_with (go_at_call 71; refine (vlook_any s hs4 p hlt _ w'.heap.size (w'.heap.size + 1) w'.heap.size ⟨by omega, Nat.le_refl _⟩ HG.out.size H HV.out (HG.out.below hbl') l HF.out).mono ?_; rintro e w4 ⟨hbl4, nx, H', wg', rfl, hv4, hpn, hns, hlk4⟩; have HV4 := Hid.mk' hv4; have HL4 := Hid.mk' hlk4; clear hv4 hlk4)
            go_roundg (if wg' = true then 0 else s.size + 1 - nx)
            case measure =>
              have : gk = s.size + 1 - p := (by first | exact HK.out rfl | exact HK.out trivial)
              split <;> omega
            case rel => exact ⟨nx, H', wg', rfl, hns, HV4.out, hbl'.trans hbl4, HL4.out, fun h => by rw [if_neg (by simp [h])]⟩
          · have hpe : p = s.size := by omega
            have HI : Hid (IsImg s) := (by
              obtain ⟨l, hl⟩ := HFo.out
              rw [hpe] at hl
              exact ⟨HH.out, l, hl.chain, H, hl.lawful⟩ : IsImg s)
            clear hpe
            go_wp2
            go_ret
            exact ⟨hbl', .inl ⟨HI.out, rfl⟩⟩
end Go.Proofs.YtjjbmbjmdgoofaaGreatDoor
