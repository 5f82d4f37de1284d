/-
  The program's list of bins: with, without, replaced.
-/
import Derived.Test.YtjjbmbjmdgoofaaGreatDoorG24
set_option linter.unusedVariables false
set_option linter.unusedSimpArgs false
namespace Go.Proofs.YtjjbmbjmdgoofaaGreatDoor
open Go.RowKit
theorem own_low {w : World} {base base' : Nat} {e : TypeId} {s n : Nat} {v : Value} {xs : List Value} (h : w.ownsRow base e s v n xs) (hb : base' ≤ base) : w.ownsRow base' e s v n xs := by
  refine ⟨h.1, ?_⟩
  rcases h.2 with hn | ⟨g, cap, cur, rfl, hbg, r⟩
  · exact .inl hn
  · exact .inr ⟨g, cap, cur, rfl, by omega, r⟩
theorem own_drewN {w : World} {base : Nat} {e : TypeId} {s n : Nat} {v : Value} {xs : List Value} (h : w.ownsRow base e s v n xs) (k : Nat) : (w.drewN k).ownsRow base e s v n xs := h
theorem own_setB {w : World} {base : Nat} {e : TypeId} {s n g cap : Nat} {xs : List Value} (h : w.ownsRow base e s (.slice (some ⟨g, 0, none⟩) n cap) n xs) (k : Nat) (u : Value) : (w.setCell ⟨g, k, none⟩ u).ownsRow base e s (.slice (some ⟨g, 0, none⟩) n cap) n (xs.set k u) := by
  refine ⟨by rw [List.length_set]; exact h.1, ?_⟩
  rcases h.2 with ⟨hv, _⟩ | ⟨g', cap', cur, hv, hbg, hh, hn, hm, hs, ht⟩
  · cases hv
  · cases hv
    refine .inr ⟨g, cap, cur.setIfInBounds k u, rfl, hbg, Blk.set (t := e) hh k u, hn, hm, by simpa using hs, ?_⟩
    rw [Array.toList_setIfInBounds, List.take_set, ht]
theorem own_set5 {w : World} {base : Nat} {e : TypeId} {n g cap : Nat} {l : List Bn} (h : w.ownsRow base e 5 (.slice (some ⟨g, 0, none⟩) n cap) n (cellsB l)) (i : Nat) (hi : i < l.length) (b : Bn) :
    (((((w.setCell ⟨g, i * 5, none⟩ (.int .i64 b.id)).setCell ⟨g, i * 5 + 1, none⟩ (.int .i64 b.zone)).setCell ⟨g, i * 5 + 2, none⟩ (.int .i64 b.cap)).setCell ⟨g, i * 5 + 3, none⟩ (.int .i64 b.used)).setCell ⟨g, i * 5 + 4, none⟩ (.int .i64 b.has)).ownsRow base e 5 (.slice (some ⟨g, 0, none⟩) n cap) n (cellsB (l.set i b)) := by
  rw [cellsB_set l i hi b]
  exact own_setB (own_setB (own_setB (own_setB (own_setB h _ _) _ _) _ _) _ _) _ _
theorem below_set5 {B : Nat} {w wr : World} (h : Below B w wr) (g i : Nat) (hg : B ≤ g) (b : Bn) :
    Below B w (((((wr.setCell ⟨g, i * 5, none⟩ (.int .i64 b.id)).setCell ⟨g, i * 5 + 1, none⟩ (.int .i64 b.zone)).setCell ⟨g, i * 5 + 2, none⟩ (.int .i64 b.cap)).setCell ⟨g, i * 5 + 3, none⟩ (.int .i64 b.used)).setCell ⟨g, i * 5 + 4, none⟩ (.int .i64 b.has)) :=
  ((((h.setCell (p := ⟨g, i * 5, none⟩) hg _).setCell (p := ⟨g, i * 5 + 1, none⟩) hg _).setCell (p := ⟨g, i * 5 + 2, none⟩) hg _).setCell (p := ⟨g, i * 5 + 3, none⟩) hg _).setCell (p := ⟨g, i * 5 + 4, none⟩) hg _
theorem own_cells {w : World} {base : Nat} {e : TypeId} {v : Value} {l : List Bn} (h : w.ownsRow base e 5 v l.length (cellsB l)) (i : Nat) (hi : i < l.length) :
    ∃ g cap, v = .slice (some ⟨g, 0, none⟩) l.length cap ∧ base ≤ g ∧ g < w.heap.size ∧ l.length ≤ cap ∧ (∀ k, w.frozen? ⟨g, k, none⟩ = false) ∧ w.cell? ⟨g, i * 5, none⟩ = some (.int .i64 l[i].id) ∧ w.cell? ⟨g, i * 5 + 1, none⟩ = some (.int .i64 l[i].zone) ∧ w.cell? ⟨g, i * 5 + 2, none⟩ = some (.int .i64 l[i].cap) ∧ w.cell? ⟨g, i * 5 + 3, none⟩ = some (.int .i64 l[i].used) ∧ w.cell? ⟨g, i * 5 + 4, none⟩ = some (.int .i64 l[i].has) := by
  rcases h.2 with ⟨_, hv⟩ | ⟨g, cap, cur, hv, hbg, hh, hn, hm, hs, ht⟩
  · omega
  · have hb : Blk w g cur e := hh
    have hc : ∀ j u, (cellsB l)[j]? = some u → w.cell? ⟨g, 0 + j, none⟩ = some u := by
      intro j u hj
      rw [Nat.zero_add, hb.cell]
      rw [← ht, List.getElem?_take] at hj
      split at hj
      · simpa using hj
      · cases hj
    have := bin_cells hc i hi
    simp only [Nat.zero_add] at this
    exact ⟨g, cap, hv, hbg, hb.lt, hn, fun k => hb.free k, this⟩
theorem own_empty (w : World) : (w.alloc (.cells #[] 31)).ownsRow w.heap.size 31 5 (.slice (some ⟨w.heap.size, 0, none⟩) 0 0) 0 [] := World.ownsRow_made w #[] 0 (Nat.le_refl _) (by unfold maxLen; omega) rfl
theorem take_next {l : List Bn} {i : Nat} (h : i < l.length) : l.take (i + 1) = l.take i ++ [l[i]] := by rw [List.take_succ_eq_append_getElem h]
theorem drop_next {l : List Bn} {i : Nat} (h : i < l.length) : l.drop i = l[i] :: l.drop (i + 1) := List.drop_eq_getElem_cons h
set_option maxHeartbeats 1000000 in
theorem without_any (bs : List Bn) (id : Int) (v : Value) (w : World) (h : Reads w v bs.length (cellsB bs)) (hl : bs.length ≤ 100) :
    Calls Tryz.prog 107 #[v, .int .i64 id] w fun e w' => Below w.heap.size w w' ∧ ∃ v', e = .returned v' ∧ w'.ownsRow w.heap.size 31 5 v' (dropB bs id).length (cellsB (dropB bs id)) := by
  obtain ⟨i0, hi0, hz0, hz1, hz2⟩ := info_parts Tryz.infoBin
  obtain ⟨a, c, rfl⟩ := h.shape
  have HH := Hid.mk2 h
  clear h
  go_enter Tryz.func107, Tryz.ntmps107
  go_wp2
  go_loopw [5, 6] (fun v vi wr => ∃ (i : Nat) (acc : List Bn), i ≤ bs.length ∧ vi = .int .i64 i ∧ acc = dropB (bs.take i) id ∧ acc.length ≤ i ∧ wr.ownsRow w.heap.size 31 5 v acc.length (cellsB acc) ∧ Below w.heap.size w wr) (fun _ i _ => bs.length - (intOf i).toNat)
  case atStart => exact ⟨0, [], Nat.zero_le _, rfl, rfl, Nat.le_refl _, by simpa [cellsB] using World.ownsRow_made w #[] 0 (Nat.le_refl _) (by unfold maxLen; omega) rfl, (Below.refl _ _).alloc (Nat.le_refl _) _⟩
  case round =>
    obtain ⟨i, acc, hi, rfl, hacc, hal, hown, hbel⟩ := hrel
    have HA := Hid.mk2 hacc
    clear hacc
    have hbs := hbel.size
    by_cases hlt : i < bs.length
    · obtain ⟨g, o, cap, hcut, hcap, hg, hc⟩ := HH.out.pos (by omega)
      cases hcut
      obtain ⟨c0, c1, c2, c3, c4⟩ := bin_cells hc i hlt
      have e0 := (hbel.cell (p := ⟨g, o + i * 5, none⟩) hg).trans c0
      have e1 := (hbel.cell (p := ⟨g, o + i * 5 + 1, none⟩) hg).trans c1
      have e2 := (hbel.cell (p := ⟨g, o + i * 5 + 2, none⟩) hg).trans c2
      have e3 := (hbel.cell (p := ⟨g, o + i * 5 + 3, none⟩) hg).trans c3
      have e4 := (hbel.cell (p := ⟨g, o + i * 5 + 4, none⟩) hg).trans c4
      have HT : Hid (dropB (bs.take (i + 1)) id = dropB (bs.take i) id ++ dropB [bs[i]] id) := by rw [Hid]; unfold dropB; rw [take_next hlt, List.filter_append]
      generalize hb : bs[i] = b at *
      clear hc c0 c1 c2 c3 c4 hb
      by_cases heq : b.id = id
      · have heq' : (b.id != id) = false := by simpa using heq
        have HE : Hid (dropB [b] id = []) := by simp [Hid, dropB, heq]
        clear heq
        go_wp2
        go_roundw
        case rel => exact ⟨i + 1, acc, by omega, by go_num, by rw [HT.out, HE.out, ← HA.out]; simp, by omega, hown, hbel⟩
        case measure => simp [intOf]; omega
      · have heq' : (b.id != id) = true := by simpa using heq
        have HE : Hid (dropB [b] id = [b]) := by simp [Hid, dropB, heq]
        clear heq
        go_wp2_with (at_builtin; refine wpList_append_own _ rfl (.tmp 21) (.tmp 26) 45 rfl w.heap.size 31 i0 (.agg #[.int .i64 0, .int .i64 0, .int .i64 0, .int .i64 0, .int .i64 0]) 5 40 Tryz.underlying45 hi0 hz0 hz1 hz2 rfl (by decide) _ _ _ rfl (hown.alloc _) ⟨wr.heap.size, 0, none⟩ 1 1 [.int .i64 b.id, .int .i64 b.zone, .int .i64 b.cap, .int .i64 b.used, .int .i64 b.has] rfl rfl (cell_five _ _ _ _ _ _ _) (one_bin b) (by unfold maxLen; omega) (by omega) (by simp; omega) ?_; intro v' w2 hown2 hgrow2 _)
        have R := own_step hbel hown2 hgrow2 hown
        clear hown2 hgrow2 hown
        go_roundw
        case rel => exact ⟨i + 1, acc ++ [b], by omega, by go_num, by rw [HT.out, HE.out, ← HA.out], by simp; omega, R.1, R.2⟩
        case measure => simp [intOf]; omega
    · obtain rfl : i = bs.length := by omega
      go_wp2
      go_ret
      refine ⟨hbel, _, rfl, ?_⟩
      have := HA.out
      rw [List.take_length] at this
      rw [← this]
      exact hown
set_option maxHeartbeats 2000000 in
theorem with_any (bs : List Bn) (b : Bn) (v : Value) (w : World) (h : Reads w v bs.length (cellsB bs)) (hl : bs.length ≤ 100) :
    Calls Tryz.prog 77 #[v, bnA b] w fun e w' => Below w.heap.size w w' ∧ ∃ v', e = .returned v' ∧ w'.ownsRow w.heap.size 31 5 v' (insB bs b).length (cellsB (insB bs b)) := by
  obtain ⟨i0, hi0, hz0, hz1, hz2⟩ := info_parts Tryz.infoBin
  obtain ⟨a, c, rfl⟩ := h.shape
  have HH := Hid.mk2 (h.alloc (.cells #[.int .i64 b.id, .int .i64 b.zone, .int .i64 b.cap, .int .i64 b.used, .int .i64 b.has] 31))
  have HN := Hid.mk2 (Blk.new w #[.int .i64 b.id, .int .i64 b.zone, .int .i64 b.cap, .int .i64 b.used, .int .i64 b.has] 31)
  have HW := Hid.mk2 (box3 w (.cells #[.int .i64 b.id, .int .i64 b.zone, .int .i64 b.cap, .int .i64 b.used, .int .i64 b.has] 31))
  clear h
  unfold bnA
  go_enter Tryz.func77, Tryz.ntmps77
  go_wp2
  have hz : (w.alloc (.cells #[.int .i64 b.id, .int .i64 b.zone, .int .i64 b.cap, .int .i64 b.used, .int .i64 b.has] 31)).heap.size = w.heap.size + 1 := by simp
  generalize hw1 : w.alloc (.cells #[.int .i64 b.id, .int .i64 b.zone, .int .i64 b.cap, .int .i64 b.used, .int .i64 b.has] 31) = w1 at *
  have HW1 := Hid.mk2 hw1
  clear hw1
  have hbl := HN.out.lt
  go_loopw [5, 6] (fun v vi wr => ∃ (i : Nat), i ≤ bs.length ∧ vi = .int .i64 i ∧ wr.ownsRow w1.heap.size 31 5 v (bs.take i).length (cellsB (bs.take i)) ∧ Below w1.heap.size w1 wr ∧ ∀ j (hj : j < bs.length), j < i → bs[j].id < b.id) (fun _ i _ => bs.length - (intOf i).toNat)
  case atStart => exact ⟨0, Nat.zero_le _, rfl, (by have h := own_empty w1; rw [hz] at h ⊢; exact h), (Below.refl _ _).alloc (Nat.le_refl _) _, fun j _ hj => by omega⟩
  case round =>
    obtain ⟨i, hi, rfl, hown, hbel, hall⟩ := hrel
    have HA := Hid.mk2 hall
    clear hall
    have hbs := hbel.size
    have HB := Hid.mk2 (HN.out.below hbel hbl)
    have d0 := HB.out.cell 0
    have d1 := HB.out.cell 1
    have d2 := HB.out.cell 2
    have d3 := HB.out.cell 3
    have d4 := HB.out.cell 4
    have htl : (bs.take i).length = i := by simp; omega
    by_cases hA : ∃ h : i < bs.length, bs[i].id < b.id
    · obtain ⟨hlt, hid⟩ := hA
      obtain ⟨g, o, cap, hcut, hcap, hg, hc⟩ := HH.out.pos (by omega)
      cases hcut
      obtain ⟨c0, c1, c2, c3, c4⟩ := bin_cells hc i hlt
      have e0 := (hbel.cell (p := ⟨g, o + i * 5, none⟩) hg).trans c0
      have e1 := (hbel.cell (p := ⟨g, o + i * 5 + 1, none⟩) hg).trans c1
      have e2 := (hbel.cell (p := ⟨g, o + i * 5 + 2, none⟩) hg).trans c2
      have e3 := (hbel.cell (p := ⟨g, o + i * 5 + 3, none⟩) hg).trans c3
      have e4 := (hbel.cell (p := ⟨g, o + i * 5 + 4, none⟩) hg).trans c4
      have HT : Hid (bs.take (i + 1) = bs.take i ++ [bs[i]]) := by rw [Hid, take_next hlt]
      have HD : Hid (∀ j (hj : j < bs.length), j < i + 1 → bs[j].id < b.id) := by
        intro j hj hji
        by_cases h : j < i
        · exact HA.out j hj h
        · have : j = i := by omega
          subst this
          exact hid
      generalize hx : bs[i] = x at *
      have hd : decide (x.id < b.id) = true := by simpa using hid
      have hd2 : decide ((i : Int) < (bs.length : Int)) = true := by simp; omega
      generalize hacc : bs.take i = acc at *
      have HTL := Hid.mk2 htl
      clear hc c0 c1 c2 c3 c4 hx hid hacc htl
      have hal : acc.length ≤ 100 := by rw [HTL.out]; omega
      go_wp2
      go_quiet (fail)
      go_wp2_with (at_builtin; refine wpList_append_own _ rfl (.tmp 22) (.tmp 27) 45 rfl w1.heap.size 31 i0 (.agg #[.int .i64 0, .int .i64 0, .int .i64 0, .int .i64 0, .int .i64 0]) 5 40 Tryz.underlying45 hi0 hz0 hz1 hz2 rfl (by decide) _ _ _ rfl ((own_drewN hown _).alloc _) ⟨wr.heap.size, 0, none⟩ 1 1 [.int .i64 x.id, .int .i64 x.zone, .int .i64 x.cap, .int .i64 x.used, .int .i64 x.has] rfl rfl (cell_five _ _ _ _ _ _ _) (one_bin x) (by unfold maxLen; omega) (by omega) (by simp; omega) ?_; intro v' w2 hown2 hgrow2 _)
      have R := own_step (below_drewN hbel _) hown2 hgrow2 (own_drewN hown _)
      clear hown2 hgrow2 hown
      go_roundw
      case rel => exact ⟨i + 1, by omega, by go_num, by rw [HT.out]; exact R.1, R.2, HD.out⟩
      case measure => simp [intOf]; omega
    · have HI : Hid (insB bs b = bs.take i ++ [b] ++ bs.drop i) := by
        rw [Hid, insB_at i hi HA.out (fun h h2 => hA ⟨h, h2⟩)]; simp
      have hcase : (∃ g o cap x, (a = some ⟨g, o, none⟩ ∧ c = cap) ∧ i < bs.length ∧ bs.length ≤ cap ∧ wr.cell? ⟨g, o + i * 5, none⟩ = some (.int .i64 x) ∧ decide (x < b.id) = false) ∨ i = bs.length := by
        by_cases hlt : i < bs.length
        · obtain ⟨g, o, cap, hcut, hcap, hg, hc⟩ := HH.out.pos (by omega)
          cases hcut
          exact .inl ⟨g, o, _, bs[i].id, ⟨rfl, rfl⟩, hlt, hcap, (hbel.cell (p := ⟨g, o + i * 5, none⟩) hg).trans (bin_cells hc i hlt).1, by simpa using fun h => hA ⟨hlt, h⟩⟩
        · exact .inr (by omega)
      clear hA
      generalize hacc : bs.take i = acc at *
      have HTL := Hid.mk2 htl
      clear hacc htl
      have hal : acc.length ≤ 100 := by rw [HTL.out]; omega
      rcases hcase with ⟨g, o, cap, x, ⟨rfl, rfl⟩, hlt, hcap, e0, hd⟩ | hie
      · have hd2 : decide ((i : Int) < (bs.length : Int)) = true := by simp; omega
        go_wp2
        go_quiet (fail)
        go_wp2_with (at_builtin; refine wpList_append_own _ rfl (.tmp 31) (.tmp 33) 45 rfl w1.heap.size 31 i0 (.agg #[.int .i64 0, .int .i64 0, .int .i64 0, .int .i64 0, .int .i64 0]) 5 40 Tryz.underlying45 hi0 hz0 hz1 hz2 rfl (by decide) _ _ _ rfl ((own_drewN hown _).alloc _) ⟨wr.heap.size, 0, none⟩ 1 1 [.int .i64 b.id, .int .i64 b.zone, .int .i64 b.cap, .int .i64 b.used, .int .i64 b.has] rfl rfl (cell_five _ _ _ _ _ _ _) (one_bin b) (by unfold maxLen; omega) (by omega) (by simp; omega) ?_; intro v' w2 hown2 hgrow2 _)
        have R := own_step (below_drewN hbel _) hown2 hgrow2 (own_drewN hown _)
        clear hown2 hgrow2 hown
        have HR := Hid.mk2 R
        go_loopw [5, 6] (fun v vi wr => ∃ (i : Nat) (acc : List Bn), i ≤ bs.length ∧ vi = .int .i64 i ∧ insB bs b = acc ++ bs.drop i ∧ acc.length ≤ 1 + i ∧ wr.ownsRow w1.heap.size 31 5 v acc.length (cellsB acc) ∧ Below w1.heap.size w1 wr) (fun _ i _ => bs.length - (intOf i).toNat)
        case atStart => exact ⟨i, acc ++ [b], hi, rfl, HI.out, by simp [HTL.out]; omega, HR.out.1, HR.out.2⟩
        case round =>
          clear d0 d1 d2 d3 d4 HB hbel hbs HTL hal HI HR R
          obtain ⟨i, acc, hi, rfl, hins, hal, hown, hbel⟩ := hrel
          have HI := Hid.mk2 hins
          clear hins
          have hbs := hbel.size
          by_cases hlt : i < bs.length
          · obtain ⟨g, o, cap, hcut, hcap, hg, hc⟩ := HH.out.pos (by omega)
            cases hcut
            obtain ⟨c0, c1, c2, c3, c4⟩ := bin_cells hc i hlt
            have e0 := (hbel.cell (p := ⟨g, o + i * 5, none⟩) hg).trans c0
            have e1 := (hbel.cell (p := ⟨g, o + i * 5 + 1, none⟩) hg).trans c1
            have e2 := (hbel.cell (p := ⟨g, o + i * 5 + 2, none⟩) hg).trans c2
            have e3 := (hbel.cell (p := ⟨g, o + i * 5 + 3, none⟩) hg).trans c3
            have e4 := (hbel.cell (p := ⟨g, o + i * 5 + 4, none⟩) hg).trans c4
            have HT := Hid.mk2 (drop_next hlt)
            generalize hx : bs[i] = x at *
            clear hc c0 c1 c2 c3 c4 hx
            go_wp2_with (at_builtin; refine wpList_append_own _ rfl (.tmp 39) (.tmp 44) 45 rfl w1.heap.size 31 i0 (.agg #[.int .i64 0, .int .i64 0, .int .i64 0, .int .i64 0, .int .i64 0]) 5 40 Tryz.underlying45 hi0 hz0 hz1 hz2 rfl (by decide) _ _ _ rfl (hown.alloc _) ⟨wr.heap.size, 0, none⟩ 1 1 [.int .i64 x.id, .int .i64 x.zone, .int .i64 x.cap, .int .i64 x.used, .int .i64 x.has] rfl rfl (cell_five _ _ _ _ _ _ _) (one_bin x) (by unfold maxLen; omega) (by omega) (by simp; omega) ?_; intro v' w2 hown2 hgrow2 _)
            have R := own_step hbel hown2 hgrow2 hown
            clear hown2 hgrow2 hown
            go_roundw
            case rel => exact ⟨i + 1, acc ++ [x], by omega, by go_num, by rw [HI.out, HT.out]; simp, by simp; omega, R.1, R.2⟩
            case measure => simp [intOf]; omega
          · obtain rfl : i = bs.length := by omega
            go_wp2
            go_ret
            refine ⟨HW.out.trans (hbel.mono (by omega)), _, rfl, ?_⟩
            have := HI.out
            rw [List.drop_length, List.append_nil] at this
            rw [this]
            exact own_low hown (by omega)
      · have hd2 : decide ((i : Int) < (bs.length : Int)) = false := by simp; omega
        have hd3 : decide (i < bs.length) = false := by simp; omega
        clear hie
        go_wp2
        go_quiet (fail)
        go_wp2_with (at_builtin; refine wpList_append_own _ rfl (.tmp 31) (.tmp 33) 45 rfl w1.heap.size 31 i0 (.agg #[.int .i64 0, .int .i64 0, .int .i64 0, .int .i64 0, .int .i64 0]) 5 40 Tryz.underlying45 hi0 hz0 hz1 hz2 rfl (by decide) _ _ _ rfl ((own_drewN hown _).alloc _) ⟨wr.heap.size, 0, none⟩ 1 1 [.int .i64 b.id, .int .i64 b.zone, .int .i64 b.cap, .int .i64 b.used, .int .i64 b.has] rfl rfl (cell_five _ _ _ _ _ _ _) (one_bin b) (by unfold maxLen; omega) (by omega) (by simp; omega) ?_; intro v' w2 hown2 hgrow2 _)
        have R := own_step (below_drewN hbel _) hown2 hgrow2 (own_drewN hown _)
        clear hown2 hgrow2 hown
        have HR := Hid.mk2 R
        go_loopw [5, 6] (fun v vi wr => ∃ (i : Nat) (acc : List Bn), i ≤ bs.length ∧ vi = .int .i64 i ∧ insB bs b = acc ++ bs.drop i ∧ acc.length ≤ 1 + i ∧ wr.ownsRow w1.heap.size 31 5 v acc.length (cellsB acc) ∧ Below w1.heap.size w1 wr) (fun _ i _ => bs.length - (intOf i).toNat)
        case atStart => exact ⟨i, acc ++ [b], hi, rfl, HI.out, by simp [HTL.out]; omega, HR.out.1, HR.out.2⟩
        case round =>
          clear d0 d1 d2 d3 d4 HB hbel hbs HTL hal HI HR R
          obtain ⟨i, acc, hi, rfl, hins, hal, hown, hbel⟩ := hrel
          have HI := Hid.mk2 hins
          clear hins
          have hbs := hbel.size
          by_cases hlt : i < bs.length
          · obtain ⟨g, o, cap, hcut, hcap, hg, hc⟩ := HH.out.pos (by omega)
            cases hcut
            obtain ⟨c0, c1, c2, c3, c4⟩ := bin_cells hc i hlt
            have e0 := (hbel.cell (p := ⟨g, o + i * 5, none⟩) hg).trans c0
            have e1 := (hbel.cell (p := ⟨g, o + i * 5 + 1, none⟩) hg).trans c1
            have e2 := (hbel.cell (p := ⟨g, o + i * 5 + 2, none⟩) hg).trans c2
            have e3 := (hbel.cell (p := ⟨g, o + i * 5 + 3, none⟩) hg).trans c3
            have e4 := (hbel.cell (p := ⟨g, o + i * 5 + 4, none⟩) hg).trans c4
            have HT := Hid.mk2 (drop_next hlt)
            generalize hx : bs[i] = x at *
            clear hc c0 c1 c2 c3 c4 hx
            go_wp2_with (at_builtin; refine wpList_append_own _ rfl (.tmp 39) (.tmp 44) 45 rfl w1.heap.size 31 i0 (.agg #[.int .i64 0, .int .i64 0, .int .i64 0, .int .i64 0, .int .i64 0]) 5 40 Tryz.underlying45 hi0 hz0 hz1 hz2 rfl (by decide) _ _ _ rfl (hown.alloc _) ⟨wr.heap.size, 0, none⟩ 1 1 [.int .i64 x.id, .int .i64 x.zone, .int .i64 x.cap, .int .i64 x.used, .int .i64 x.has] rfl rfl (cell_five _ _ _ _ _ _ _) (one_bin x) (by unfold maxLen; omega) (by omega) (by simp; omega) ?_; intro v' w2 hown2 hgrow2 _)
            have R := own_step hbel hown2 hgrow2 hown
            clear hown2 hgrow2 hown
            go_roundw
            case rel => exact ⟨i + 1, acc ++ [x], by omega, by go_num, by rw [HI.out, HT.out]; simp, by simp; omega, R.1, R.2⟩
            case measure => simp [intOf]; omega
          · obtain rfl : i = bs.length := by omega
            go_wp2
            go_ret
            refine ⟨HW.out.trans (hbel.mono (by omega)), _, rfl, ?_⟩
            have := HI.out
            rw [List.drop_length, List.append_nil] at this
            rw [this]
            exact own_low hown (by omega)
end Go.Proofs.YtjjbmbjmdgoofaaGreatDoor
