/-
  Kept: whatever the bins and the moves are, it answers true.
-/
import Derived.Test.YtffpmkgjnjdbaabGreatDoorMW
import Derived.Deep.AppendLies
set_option linter.unusedVariables false
set_option linter.unusedSimpArgs false
namespace Go.Proofs.YtffpmkgjnjdbaabGreatDoor
open Go.RowKit

theorem mov_cells {w : World} {ms : List Mov} {g o : Nat} (hc : ∀ j u, (cellsM ms)[j]? = some u → w.cell? ⟨g, o + j, none⟩ = some u) (i : Nat) (hi : i < ms.length) :
    w.cell? ⟨g, o + i * 3, none⟩ = some (.bool ms[i].pick) ∧ w.cell? ⟨g, o + i * 3 + 1, none⟩ = some (.int .i64 ms[i].bin) ∧ w.cell? ⟨g, o + i * 3 + 2, none⟩ = some (.int .i64 ms[i].n) :=
  ⟨hc _ _ (cellsM_at ms i hi 0 (by omega)), hc _ _ (cellsM_at ms i hi 1 (by omega)), hc _ _ (cellsM_at ms i hi 2 (by omega))⟩
set_option maxHeartbeats 8000000 in
set_option maxRecDepth 100000 in
theorem Kept_any (s : ByteArray) (hs : s.size ≤ maxLen) (mv : Value) (ms : List Mov) (hin : ∀ m ∈ ms, In64 m.bin ∧ In64 m.n) (hml : ms.length ≤ maxLen) (w : World) (hg : GlobT w) (hp : GlobB w) (hmv : (∃ a c, mv = .slice a ms.length c) ∧ (0 < ms.length → Reads w mv ms.length (cellsM ms))) :
    Calls Tryz.prog 5 #[.string s, mv] w fun e w' => Below w.heap.size w w' ∧ e = .returned (.bool true) := by
  obtain ⟨i0, hi0, hz0, hz1, hz2⟩ := info_parts Tryz.infoBin
  obtain ⟨ma, mc, rfl⟩ := hmv.1
  have HS := Hid.mk2 hs
  have HIN := Hid.mk2 hin
  have HG := Hid.mk2 hg
  have HP := Hid.mk2 hp
  have HMV := Hid.mk2 hmv.2
  have hml' : (ms.length : Int) ≤ 9223372036854775807 := by have h := hml; simp [maxLen] at h; omega
  clear hs hin hg hp hmv hml
  go_enter Tryz.func5, Tryz.ntmps5
  go_wp2_with (first
    | (go_at_call 13; refine (shelf_any s HS.out _).mono ?_; rintro e w1 ⟨hb1, l, a, c, hsh, h1, h12, rfl, hown⟩; obtain ⟨gl, cap, hv, hbg, hglt, hcap, hxx⟩ := own_cells hown 0 (by omega); clear hxx; cases hv; have HSH := Hid.mk2 hsh; have HOW := Hid.mk2 hown; have HB1 := Hid.mk2 hb1; clear hsh hown hb1)
    | (go_at_call 17; refine (filled_any l _ _ (HG.out.below HB1.out) (HP.out.below HB1.out) HSH.out h12 (reads_of_own HOW.out)).mono ?_; rintro e w2 ⟨rfl, hst, hb2⟩; have HK0 : Hid (KM w w2 gl c l.length w1.heap.size l l (bsN [83, 76, 0, 17])) := ⟨own_below HOW.out hb2, hst, HB1.out.trans (hb2.mono HB1.out.size)⟩; clear hst hb2))
  generalize hsb : w1.heap.size = sb at *
  generalize hN : l.length = N at *
  have HNL := Hid.mk2 hN
  clear hsb hN HOW HB1
  go_loopw [8] (fun vi wr => ∃ (i : Nat) (L : List Bn), i ≤ ms.length ∧ vi = .int .i64 i ∧ Shelf L ∧ L.length = N ∧ KM w wr gl c N sb L L (bsN [83, 76, 0, 17])) (fun i _ => ms.length - (intOf i).toNat)
  case atStart => exact ⟨0, l, Nat.zero_le _, rfl, HSH.out, HNL.out, HK0.out⟩
  case round =>
    clear HK0 HSH HNL
    obtain ⟨i, L, hi, rfl, hsh, hN, hK⟩ := hrel
    have HSH := Hid.mk2 hsh
    have HNL := Hid.mk2 hN
    have HK := Hid.mk2 hK
    have hgw := hK.glt
    have hsw := hK.st.lt
    clear hsh hN hK
    by_cases hlt : i < ms.length
    · obtain ⟨g2, o2, cap2, hcut, hcap2, hg2, hc2⟩ := (HMV.out (by omega)).pos (by omega)
      cases hcut
      obtain ⟨c0, c1, c2⟩ := mov_cells hc2 i hlt
      have m0 := (HK.out.bl.cell (p := ⟨g2, o2 + i * 3, none⟩) hg2).trans c0
      have m1 := (HK.out.bl.cell (p := ⟨g2, o2 + i * 3 + 1, none⟩) hg2).trans c1
      have m2 := (HK.out.bl.cell (p := ⟨g2, o2 + i * 3 + 2, none⟩) hg2).trans c2
      have HM := Hid.mk2 (HIN.out ms[i] (List.getElem_mem hlt))
      generalize hm : ms[i] = m at *
      obtain ⟨mp, mb, mn⟩ := m
      simp only at m0 m1 m2 HM
      clear hc2 c0 c1 c2 hm
      go_wp2_with (go_at_call 15; refine (pick_any mb N HM.out.1 (by omega) _).mono ?_; rintro e w9 ⟨⟨r, hr0, hr1, rfl⟩, hw9⟩; subst w9; obtain ⟨k, rfl⟩ : ∃ k : Nat, r = k := ⟨r.toNat, by omega⟩)
      have hkN : k < N := by omega
      have hkL : k < L.length := by rw [HNL.out]; exact hkN
      have HRL : Hid (wr.ownsRow w.heap.size 25 5 (.slice (some ⟨gl, 0, none⟩) N c) L.length (cellsB L)) := by rw [Hid, HNL.out]; exact HK.out.row
      obtain ⟨g3, cap3, hv3, hbg3, hg3, hcap3, hfr, e0, e1, e2, e3, e4⟩ := own_cells HRL.out k hkL
      rw [HNL.out] at hv3 hcap3
      cases hv3
      have hLl : L.length ≤ 100 := by rw [HNL.out]; omega
      generalize hb : L[k] = b at *
      have HB := Hid.mk2 hb
      clear hb hfr
      go_cut [10, 11] from 29 to 70 (fun s10 s11 wx => ∃ zb b', s10 = .pointer (some ⟨zb, 0, none⟩) ∧ s11 = .bool true ∧ Blk wx zb #[.int .i64 b'.id, .int .i64 b'.zone, .int .i64 b'.cap, .int .i64 b'.used, .int .i64 b'.has] 25 ∧ b'.Ok ∧ Hid (b'.id = b.id) ∧ zb ≠ gl ∧ KM w wx gl c N sb L (L.set k b') (bsN [83, 76, 0, 17]))
      case first =>
        have y0 := ((box3 wr (.cells #[.int .i64 0, .int .i64 0, .int .i64 0, .int .i64 0, .int .i64 0] 25)).cell (p := ⟨gl, k * 5, none⟩) hgw).trans e0
        have y1 := ((box3 wr (.cells #[.int .i64 0, .int .i64 0, .int .i64 0, .int .i64 0, .int .i64 0] 25)).cell (p := ⟨gl, k * 5 + 1, none⟩) hgw).trans e1
        have y2 := ((box3 wr (.cells #[.int .i64 0, .int .i64 0, .int .i64 0, .int .i64 0, .int .i64 0] 25)).cell (p := ⟨gl, k * 5 + 2, none⟩) hgw).trans e2
        have y3 := ((box3 wr (.cells #[.int .i64 0, .int .i64 0, .int .i64 0, .int .i64 0, .int .i64 0] 25)).cell (p := ⟨gl, k * 5 + 3, none⟩) hgw).trans e3
        have y4 := ((box3 wr (.cells #[.int .i64 0, .int .i64 0, .int .i64 0, .int .i64 0, .int .i64 0] 25)).cell (p := ⟨gl, k * 5 + 4, none⟩) hgw).trans e4
        have hg2w : g2 < wr.heap.size := Nat.lt_of_lt_of_le hg2 HK.out.bl.size
        have x0 := ((box3 wr (.cells #[.int .i64 0, .int .i64 0, .int .i64 0, .int .i64 0, .int .i64 0] 25)).cell (p := ⟨g2, o2 + i * 3, none⟩) hg2w).trans m0
        have x1 := ((box3 wr (.cells #[.int .i64 0, .int .i64 0, .int .i64 0, .int .i64 0, .int .i64 0] 25)).cell (p := ⟨g2, o2 + i * 3 + 1, none⟩) hg2w).trans m1
        have x2 := ((box3 wr (.cells #[.int .i64 0, .int .i64 0, .int .i64 0, .int .i64 0, .int .i64 0] 25)).cell (p := ⟨g2, o2 + i * 3 + 2, none⟩) hg2w).trans m2
        go_region_with (go_at_call 21; refine (moved_any sb L (bsN [83, 76, 0, 17]) k hkL mp mb mn HM.out.2 HSH.out hLl b HB.out _ (by first | with_reducible exact HK.out.dr.st | with_reducible exact (HK.out.al (.cells #[.int .i64 0, .int .i64 0, .int .i64 0, .int .i64 0, .int .i64 0] 25)).dr.st)).mono ?_; rintro e w3 ⟨b', hok, hid, rfl, hs3, hb3, hr3⟩; unfold bnA; have HOK := Hid.mk2 hok; have HID := Hid.mk2 hid; (first | (have hb4 : But sb wr.drew w3 := (by with_reducible exact hb3); replace HK := Hid.mk2 (HK.out.dr.but hb4 hs3 hglt hbg); clear hb4) | (have hb4 : But sb (wr.alloc (.cells #[.int .i64 0, .int .i64 0, .int .i64 0, .int .i64 0, .int .i64 0] 25)).drew w3 := (by with_reducible exact hb3); have hr4 : RowNew (wr.alloc (.cells #[.int .i64 0, .int .i64 0, .int .i64 0, .int .i64 0, .int .i64 0] 25)).drew w3 sb := (by with_reducible exact hr3); have hZ := (Blk.new wr #[.int .i64 0, .int .i64 0, .int .i64 0, .int .i64 0, .int .i64 0] 25).drew.but hb4 (by omega); have HOFF := Hid.mk2 (off_new HK.out.st hr4); replace HK := Hid.mk2 ((HK.out.al (.cells #[.int .i64 0, .int .i64 0, .int .i64 0, .int .i64 0, .int .i64 0] 25)).dr.but hb4 hs3 hglt hbg); clear hb4 hr4)); clear hok hid hs3 hb3 hr3; try (have q0 := hZ.cell 0; have q1 := hZ.cell 1; have q2 := hZ.cell 2; have q3 := hZ.cell 3; have q4 := hZ.cell 4; have p0 := hZ.free 0; have p1 := hZ.free 1; have p2 := hZ.free 2; have p3 := hZ.free 3; have p4 := hZ.free 4))
        all_goals
          go_wp2_with fail
          go_meet
          case rel => first | (have hZ1 := hZ; exact ⟨_, b', rfl, rfl, ((((hZ.set 0 _).set 1 _).set 2 _).set 3 _).set 4 _, HOK.out, HID, (by omega), HK.out.oth5 wr.heap.size _ _ _ _ _ (by omega) (by omega) (by omega) HOFF.out⟩) | exact ⟨_, b', rfl, rfl, Blk.new w3 _ _, HOK.out, HID, (by have := HK.out.glt; omega), HK.out.al _⟩
      case rest =>
        obtain ⟨zb, b', rfl, rfl, hz, hok, hid, hzg, hK2⟩ := hcut
        clear HRL e0 e1 e2 e3 e4 m0 m1 m2
        have HSH2 : Hid (Shelf (L.set k b')) := HSH.out.set k hkL b' (by rw [HB.out]; exact hid.out) hok
        have HN2 : Hid ((L.set k b').length = N) := by rw [Hid, List.length_set]; exact HNL.out
        have HK2 := Hid.mk2 hK2
        have HK3 := Hid.mk2 (hK2.own5 k hkL b' hglt hbg)
        have hg4 := hK2.glt
        have z0 := hz.cell 0
        have z1 := hz.cell 1
        have z2 := hz.cell 2
        have z3 := hz.cell 3
        have z4 := hz.cell 4
        have HRL : Hid (wc.ownsRow w.heap.size 25 5 (.slice (some ⟨gl, 0, none⟩) N c) L.length (cellsB L)) := by rw [Hid, HNL.out]; exact hK2.row
        obtain ⟨g5, cap5, hv5, hbg5, hg5, hcap5, hfr5, e0, e1, e2, e3, e4⟩ := own_cells HRL.out k hkL
        rw [HNL.out] at hv5 hcap5
        cases hv5
        have f0 := hfr5 (k * 5)
        have f1 := hfr5 (k * 5 + 1)
        have f2 := hfr5 (k * 5 + 2)
        have f3 := hfr5 (k * 5 + 3)
        have f4 := hfr5 (k * 5 + 4)
        have hL2l : (L.set k b').length ≤ 100 := by rw [HN2.out]; omega
        generalize hL2 : L.set k b' = L2 at *
        clear hfr5 HRL hz hok hid hK2 hL2 HSH HB
        go_wp2_with (first
          | (go_at_call 22; refine (stBins_any sb L2 _ _ HK3.out.st hL2l).mono ?_; rintro e w5 ⟨hb5, a5, c5, rfl, hown5⟩; have HN5 := Hid.mk2 (reads_of_own hown5); have HK5 := Hid.mk2 (HK3.out.below hb5); have HR5 : Hid (Reads w5 (.slice (some ⟨gl, 0, none⟩) N c) L2.length (cellsB L2)) := (by rw [Hid, HN2.out]; exact reads_of_own HK5.out.row); clear hb5 hown5)
          | (go_at_call 23; refine (sameBins_any L2 _ _ _ HN5.out HR5.out hL2l).mono ?_; rintro e w6 ⟨rfl, hb6⟩; have HK6 := Hid.mk2 (HK5.out.below hb6); clear hb6))
        go_roundw
        case rel => exact ⟨i + 1, L2, by omega, by go_num, HSH2.out, HN2.out, HK6.out⟩
        case measure => simp [intOf]; omega
    · have hNL : L.length ≤ 100 := by rw [HNL.out]; omega
      have HZ : Hid (KM w wr gl c N sb L (bsAt L 0) (bsN [83, 76, 0, 17])) := by rw [Hid, bsAt_zero]; exact HK.out
      clear HK
      go_wp2
      go_loopw [14, 15] (fun v vi wr => ∃ (j : Nat), j ≤ N ∧ vi = .int .i64 j ∧ KM w wr gl c N sb L (bsAt L j) (bsN [83, 76, 0, 17]) ∧ wr.ownsRow (sb + 1) 25 5 v (leftB L j).length (cellsB (leftB L j)) ∧ Sep wr sb v) (fun _ i _ => N - (intOf i).toNat)
      case atStart => exact ⟨0, Nat.zero_le _, rfl, HZ.out, World.ownsRow_nil _ _ _ _, fun v im _ k hk hk' => by cases hk'⟩
      case round =>
        clear HZ hgw hsw
        obtain ⟨j, hj, rfl, hK, hlo, hsep⟩ := hrel
        have HK := Hid.mk2 hK
        have HLO := Hid.mk2 hlo
        have HSE := Hid.mk2 hsep
        have hsw := hK.st.lt
        have hbl100 : (bsAt L j).length ≤ 100 := Nat.le_trans (bsAt_sub L j).length_le hNL
        have hll : (leftB L j).length ≤ 100 := by have := hbl100; simp [bsAt] at this; omega
        clear hK hlo hsep
        by_cases hlt2 : j < N
        · have hjL : j < L.length := by rw [HNL.out]; exact hlt2
          have hlN : L.length = N := HNL.out
          obtain ⟨_, _, hv3, _, _, _, hfr, e0, e1, e2, e3, e4⟩ := own_cells (show wr.ownsRow w.heap.size 25 5 (.slice (some ⟨gl, 0, none⟩) N c) L.length (cellsB L) by rw [HNL.out]; exact HK.out.row) j hjL
          rw [hlN] at hv3
          cases hv3
          by_cases hu : 0 < L[j].used
          · have HRK := Hid.mk2 (remK_used HSH.out hjL hu)
            have HB2 := Hid.mk2 (bsAt_yes hjL hu)
            have HL2 := Hid.mk2 (leftB_yes hjL hu)
            have HGC : Hid (∀ (wx : World) (L' : List Bn), KM w wx gl c N sb L L' (bsN [83, 76, 0, 17]) → wx.cell? ⟨gl, j * 5, none⟩ = some (.int .i64 L[j].id) ∧ wx.cell? ⟨gl, j * 5 + 1, none⟩ = some (.int .i64 L[j].zone) ∧ wx.cell? ⟨gl, j * 5 + 2, none⟩ = some (.int .i64 L[j].cap) ∧ wx.cell? ⟨gl, j * 5 + 3, none⟩ = some (.int .i64 L[j].used) ∧ wx.cell? ⟨gl, j * 5 + 4, none⟩ = some (.int .i64 L[j].has)) := by
              intro wx L' hx
              obtain ⟨_, _, hv, _, _, _, _, a0, a1, a2, a3, a4⟩ := own_cells (show wx.ownsRow w.heap.size 25 5 (.slice (some ⟨gl, 0, none⟩) N c) L.length (cellsB L) by rw [hlN]; exact hx.row) j hjL
              rw [hlN] at hv
              cases hv
              exact ⟨a0, a1, a2, a3, a4⟩
            clear hlN
            generalize hx : L[j] = x at *
            clear hx hfr
            go_wp2_with (first
              | (go_at_call 24; refine (stRemove_any sb (bsAt L j) _ x.id _ HK.out.st hbl100).mono ?_; rintro e w3 ⟨rfl, hs3, hb3, hr3⟩; rw [HRK.out] at hs3 ⊢; rw [if_neg (by decide)] at hs3; have HLT := Hid.mk2 (fun k hk => (HLO.out.lt k hk).2); replace HSE := Hid.mk2 (HSE.out.to hr3 HLT.out); replace HLO := Hid.mk2 (own_but HLO.out hb3 (fun k hk => by have := (HLO.out.lt k hk).1; omega)); replace HK := Hid.mk2 (HK.out.but hb3 hs3 hglt hbg); clear hs3 hb3 hr3 HLT; obtain ⟨a0, a1, a2, a3, a4⟩ := HGC.out w3 _ HK.out; have hsw3 := HK.out.st.lt)
              | (at_builtin; refine wpList_append_lies _ rfl (.tmp 90) (.tmp 95) 45 rfl (sb + 1) 25 i0 (.agg #[.int .i64 0, .int .i64 0, .int .i64 0, .int .i64 0, .int .i64 0]) 5 40 Tryz.underlying45 hi0 hz0 hz1 hz2 rfl (by decide) _ _ _ rfl (HLO.out.alloc _) ⟨w3.heap.size, 0, none⟩ 1 1 [.int .i64 x.id, .int .i64 x.zone, .int .i64 x.cap, .int .i64 x.used, .int .i64 x.has] rfl rfl (cell_five _ _ _ _ _ _ _) (one_bin x) (by omega) (by unfold maxLen; omega) (by omega) (by simp; omega) _ rfl ?_; intro g4 cap4 w4 hown4 hgrow4 hor4 hlt4; have hKS := HK.out.grown hgrow4 (fun k hk => by have := (HLO.out.lt k hk).1; omega) hglt hbg HSE.out (u' := .slice (some ⟨g4, 0, none⟩) ((leftB L j).length + 1) cap4) (fun k hk => by simp only [Value.ownBlock, Option.some.injEq] at hk; subst hk; rcases hor4 with h | h; exact .inl h; exact .inr (by subst h; simp)); have HK4 := Hid.mk2 hKS.1; have HS4 := Hid.mk2 hKS.2; have HO4 := Hid.mk2 hown4; clear hKS hown4 hgrow4 hor4))
            go_roundw
            case rel => exact ⟨j + 1, by omega, by go_num, by rw [HB2.out]; exact HK4.out, by rw [HL2.out, cellsB_snoc]; simpa [cellB] using HO4.out, HS4.out⟩
            case measure => simp [intOf]; omega
          · have HRK := Hid.mk2 (remK_free HSH.out hjL hu)
            have hdn := bsAt_drop HSH.out hjL hu
            have HD := Hid.mk2 hdn.1
            have HPK := Hid.mk2 (putK_none (n := 1) hdn.2)
            have HRK2 := Hid.mk2 (remK_none hdn.2)
            have HL2 := Hid.mk2 (leftB_no hjL hu)
            have HOKS := Hid.mk2 (HSH.out.sub (bsAt_sub L (j + 1))).ok
            have hbl101 : (bsAt L (j + 1)).length ≤ 100 := Nat.le_trans (bsAt_sub L (j + 1)).length_le hNL
            have HGC : Hid (∀ (wx : World) (L' : List Bn), KM w wx gl c N sb L L' (bsN [83, 76, 0, 17]) → wx.cell? ⟨gl, j * 5, none⟩ = some (.int .i64 L[j].id) ∧ wx.cell? ⟨gl, j * 5 + 3, none⟩ = some (.int .i64 L[j].used)) := by
              intro wx L' hx
              obtain ⟨_, _, hv, _, _, _, _, a0, a1, a2, a3, a4⟩ := own_cells (show wx.ownsRow w.heap.size 25 5 (.slice (some ⟨gl, 0, none⟩) N c) L.length (cellsB L) by rw [hlN]; exact hx.row) j hjL
              rw [hlN] at hv
              cases hv
              exact ⟨a0, a3⟩
            have t1 : Hid True := trivial
            clear hlN hdn
            generalize hx : L[j] = x at *
            clear hx hfr
            go_wp2_with (first
              | (go_at_call 24; have u1 := t1; clear t1; refine (stRemove_any sb (bsAt L j) _ x.id _ HK.out.st hbl100).mono ?_; rintro e w3 ⟨rfl, hs3, hb3, hr3⟩; rw [HRK.out] at hs3 ⊢; rw [if_pos rfl, HD.out] at hs3; have HLT := Hid.mk2 (fun k hk => (HLO.out.lt k hk).2); replace HSE := Hid.mk2 (HSE.out.to hr3 HLT.out); replace HLO := Hid.mk2 (own_but HLO.out hb3 (fun k hk => by have := (HLO.out.lt k hk).1; omega)); replace HK := Hid.mk2 (HK.out.but hb3 hs3 hglt hbg); clear hs3 hb3 hr3 HLT; obtain ⟨a0, a3⟩ := HGC.out w3 _ HK.out; have hsw3 := HK.out.st.lt)
              | (go_at_call 25; refine (stPut_any sb (bsAt L (j + 1)) _ x.id 1 (by unfold In64; omega) _ HK.out.st hbl101 HOKS.out).mono ?_; rintro e w4 ⟨rfl, hs3, hb3, hr3⟩; rw [HPK.out] at hs3 ⊢; rw [if_neg (by decide)] at hs3; have HLT := Hid.mk2 (fun k hk => (HLO.out.lt k hk).2); replace HSE := Hid.mk2 (HSE.out.to hr3 HLT.out); replace HLO := Hid.mk2 (own_but HLO.out hb3 (fun k hk => by have := (HLO.out.lt k hk).1; omega)); replace HK := Hid.mk2 (HK.out.but hb3 hs3 hglt hbg); clear hs3 hb3 hr3 HLT; obtain ⟨a5, a6⟩ := HGC.out w4 _ HK.out)
              | (go_at_call 24; refine (stRemove_any sb (bsAt L (j + 1)) _ x.id _ HK.out.st hbl101).mono ?_; rintro e w5 ⟨rfl, hs3, hb3, hr3⟩; rw [HRK2.out] at hs3 ⊢; rw [if_neg (by decide)] at hs3; have HLT := Hid.mk2 (fun k hk => (HLO.out.lt k hk).2); replace HSE := Hid.mk2 (HSE.out.to hr3 HLT.out); replace HLO := Hid.mk2 (own_but HLO.out hb3 (fun k hk => by have := (HLO.out.lt k hk).1; omega)); replace HK := Hid.mk2 (HK.out.but hb3 hs3 hglt hbg); clear hs3 hb3 hr3 HLT))
            go_roundw
            case rel => exact ⟨j + 1, by omega, by go_num, HK.out, by rw [HL2.out]; exact HLO.out, HSE.out⟩
            case measure => simp [intOf]; omega
        · have hjN : j = N := by omega
          have HBE : Hid (bsAt L j = leftB L j) := by rw [Hid, hjN, ← HNL.out]; exact bsAt_end L
          have HK2 : Hid (KM w wr gl c N sb L (leftB L j) (bsN [83, 76, 0, 17])) := by rw [Hid, ← HBE.out]; exact HK.out
          clear hjN HK
          go_wp2_with (first
            | (go_at_call 22; refine (stBins_any sb (leftB L j) _ _ HK2.out.st hll).mono ?_; rintro e w5 ⟨hb5, a5, c5, rfl, hown5⟩; have HN5 := Hid.mk2 (reads_of_own hown5); have HR5 := Hid.mk2 (reads_of_own (own_below HLO.out hb5)); have HK5 := Hid.mk2 (HK2.out.below hb5); clear hb5 hown5)
            | (go_at_call 23; refine (sameBins_any (leftB L j) _ _ _ HN5.out HR5.out hll).mono ?_; rintro e w6 ⟨rfl, hb6⟩; have HK6 := Hid.mk2 (HK5.out.below hb6); clear hb6))
          go_ret
          exact ⟨HK6.out.bl, rfl⟩
end Go.Proofs.YtffpmkgjnjdbaabGreatDoor
