/-
  Stores filled by a known policy; lists of places held against one another; copies of them.
-/
import Derived.Test.YtjjbmbjmdgoofaaGreatDoorG44
import Derived.Laws.CopyOwn
set_option linter.unusedVariables false
set_option linter.unusedSimpArgs false
namespace Go.Proofs.YtjjbmbjmdgoofaaGreatDoor
open Go.RowKit Go.Deep
set_option maxHeartbeats 2000000 in
set_option maxRecDepth 100000 in
theorem filled_known (s : ByteArray) (hz : s.size ≤ maxLen) {N : List PNode} {ls : List PLet} {rs : List PRule} (hk : KnownP s.toList N ls rs) (l : List Bn) (v : Value) (w : World) (hg : GlobT w) (hp : GlobB w) (hs : Shelf l) (h12 : l.length ≤ 12) (h : Reads w v l.length (cellsB l)) :
    Calls Tryz.prog 16 #[v, .string s] w fun e w' => e = .returned (.tuple #[.pointer (some ⟨w.heap.size, 0, none⟩), .bool true]) ∧ StoreAt w' w.heap.size l (bsN (imageC N ls rs)) ∧ Below w.heap.size w w' := by
  obtain ⟨a, c, rfl⟩ := h.shape
  have HH := Hid.mk2 h
  have HG := Hid.mk2 hg
  have HP := Hid.mk2 hp
  have HS := Hid.mk2 hs
  have HST := Hid.mk2 (store_new w)
  have HB0 := Hid.mk2 (box3 w (.cells #[.slice none 0 0, .string { data := #[] }] 82))
  have HKN := Hid.mk2 hk
  clear h hg hp hs hk
  go_enter Tryz.func16, Tryz.ntmps16
  go_wp2_with (go_at_call 13; refine (New_at _).mono ?_; rintro e _ ⟨rfl, rfl⟩)
  go_loopw [7] (fun vi wr => ∃ (j : Nat), j ≤ l.length ∧ vi = .int .i64 ((j : Int) - 1) ∧ StoreAt wr w.heap.size (l.drop j) { data := #[] } ∧ Below w.heap.size w wr) (fun i _ => (intOf i + 1).toNat)
  case atStart => exact ⟨l.length, Nat.le_refl _, by go_num, by rw [List.drop_length]; exact HST.out, HB0.out⟩
  case round =>
    obtain ⟨j, hj, rfl, hst, hbel⟩ := hrel
    have HQ := Hid.mk2 hst
    have HBL := Hid.mk2 hbel
    have hbs := hbel.size
    clear hst hbel
    by_cases hj0 : j = 0
    · subst hj0
      go_wp2_with (go_at_call 14; refine (Load_known s hz HKN.out _ _ _ _ (HG.out.below HBL.out) (HP.out.below HBL.out) HQ.out).mono ?_; rintro e w2 ⟨rfl, hs2, hb2⟩; have H1 := Hid.mk2 hs2; have H2 := Hid.mk2 hb2; clear hs2 hb2)
      go_ret2
      exact ⟨rfl, by simpa using H1.out, HBL.out.trans (H2.out.below (Nat.le_refl _) hbs)⟩
    · obtain ⟨i, rfl⟩ : ∃ i, j = i + 1 := ⟨j - 1, by omega⟩
      have hil : i < l.length := by omega
      have hd : decide (0 ≤ (i : Int)) = true := by simp
      have hsub : ((i + 1 : Nat) : Int) - 1 = (i : Int) := by simp
      obtain ⟨g, o, cap, hcut, hcap, hgl, hc⟩ := HH.out.pos (by omega)
      cases hcut
      obtain ⟨c0, c1, c2, c3, c4⟩ := bin_cells hc i hil
      have e0 := (HBL.out.cell (p := ⟨g, o + i * 5, none⟩) hgl).trans c0
      have e1 := (HBL.out.cell (p := ⟨g, o + i * 5 + 1, none⟩) hgl).trans c1
      have e2 := (HBL.out.cell (p := ⟨g, o + i * 5 + 2, none⟩) hgl).trans c2
      have e3 := (HBL.out.cell (p := ⟨g, o + i * 5 + 3, none⟩) hgl).trans c3
      have e4 := (HBL.out.cell (p := ⟨g, o + i * 5 + 4, none⟩) hgl).trans c4
      have HK : Hid (addK (l.drop (i + 1)) l[i] = 0) := addK_front (HS.out.ok _ (List.getElem_mem hil)) (shelf_front HS.out i hil) (by simp; omega)
      have HI : Hid (insB (l.drop (i + 1)) l[i] = l.drop i) := by rw [Hid, insB_front (shelf_front HS.out i hil), ← drop_next hil]
      have hl100 : (l.drop (i + 1)).length ≤ 100 := by simp; omega
      generalize hx : l[i] = x at *
      clear hc c0 c1 c2 c3 c4 hx
      rw [hsub]
      go_wp2_with (go_at_call 25; refine (stAdd_any _ _ _ x _ HQ.out hl100).mono ?_; rintro e w2 ⟨rfl, hs2, hb2, _⟩; rw [HK.out] at hs2 ⊢; rw [if_pos rfl, HI.out] at hs2; have H1 := Hid.mk2 hs2; have H2 := Hid.mk2 hb2; clear hs2 hb2)
      go_roundw
      case rel => exact ⟨i, by omega, by go_num, H1.out, HBL.out.trans (H2.out.below (Nat.le_refl _) hbs)⟩
      case measure => simp [intOf]
set_option maxHeartbeats 2000000 in
set_option maxRecDepth 100000 in
theorem samePlaces_any (l : List Plc) (hl : l.length ≤ 1000) (va vb : Value) (w : World) (ha : Reads w va l.length (cellsQ l)) (hb : Reads w vb l.length (cellsQ l)) :
    Calls Tryz.prog 28 #[va, vb] w fun e w' => e = .returned (.bool true) ∧ Below w.heap.size w w' := by
  obtain ⟨a, c, rfl⟩ := ha.shape
  obtain ⟨a2, c2, rfl⟩ := hb.shape
  have HA := Hid.mk2 ha
  have HB := Hid.mk2 hb
  clear ha hb
  go_enter Tryz.func28, Tryz.ntmps28
  go_wp2
  go_loopw [5] (fun vi wr => ∃ i : Nat, i ≤ l.length ∧ vi = .int .i64 i ∧ Below w.heap.size w wr) (fun i _ => l.length - (intOf i).toNat)
  case atStart => exact ⟨0, Nat.zero_le _, rfl, Below.refl _ _⟩
  case round =>
    obtain ⟨i, hi, rfl, hbel⟩ := hrel
    by_cases hlt : i < l.length
    · obtain ⟨g, o, cap, hcut, hcap, hg, d0, d1⟩ := plc_cells HA.out hlt
      cases hcut
      obtain ⟨g2, o2, cap2, hcut2, hcap2, hg2, d2, d3⟩ := plc_cells HB.out hlt
      cases hcut2
      have e0 := (hbel.cell (p := ⟨g, o + i * 2, none⟩) hg).trans d0
      have e1 := (hbel.cell (p := ⟨g, o + i * 2 + 1, none⟩) hg).trans d1
      have e2 := (hbel.cell (p := ⟨g2, o2 + i * 2, none⟩) hg2).trans d2
      have e3 := (hbel.cell (p := ⟨g2, o2 + i * 2 + 1, none⟩) hg2).trans d3
      generalize hx : l[i] = x at *
      have hgw : g < wr.heap.size := Nat.lt_of_lt_of_le hg hbel.size
      have hgw2 : g2 < wr.heap.size := Nat.lt_of_lt_of_le hg2 hbel.size
      have HBL := Hid.mk2 hbel
      clear d0 d1 d2 d3 hx hbel
      go_upto_region 6 with fail
      go_quiet (fail)
      go_wp2
      go_roundw
      case rel => exact ⟨i + 1, by omega, by go_num, below_drewN HBL.out _⟩
      case measure => simp [intOf]; omega
    · go_wp2
      go_ret
      exact ⟨rfl, hbel⟩
end Go.Proofs.YtjjbmbjmdgoofaaGreatDoor
