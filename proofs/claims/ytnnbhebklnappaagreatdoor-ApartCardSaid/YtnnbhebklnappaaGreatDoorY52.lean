/-
  Apart: whatever the bins and the moves are, it answers true.
-/
import Derived.Test.YtnnbhebklnappaaGreatDoorY51
import Derived.Deep.AppendLies
import Derived.Deep.DeepCutAuto
import Derived.Deep.RegionWith
set_option linter.unusedVariables false
set_option linter.unusedSimpArgs false
namespace Go.Proofs.YtnnbhebklnappaaGreatDoor
open Go.RowKit

set_option maxHeartbeats 16000000 in
set_option maxRecDepth 100000 in
theorem Apart_any (s t : ByteArray) (hs : s.size ≤ maxLen) (ht : t.size ≤ maxLen) (mv : Value) (ms : List Mov) (hin : ∀ m ∈ ms, In64 m.bin ∧ In64 m.n) (hml : ms.length ≤ maxLen) (w : World) (hg : GlobT w) (hp : GlobY w) (hmv : (∃ a c, mv = .slice a ms.length c) ∧ (0 < ms.length → Reads w mv ms.length (cellsM ms))) :
    Calls Tryz.prog 5 #[.string s, .string t, mv] w fun e w' => Below w.heap.size w w' ∧ e = .returned (.bool true) := by
  obtain ⟨ip, hip, hy0, hy1, hy2⟩ := info_parts Tryz.infoPlc
  obtain ⟨ma, mc, rfl⟩ := hmv.1
  have HS := Hid.mk2 hs
  have HT := Hid.mk2 ht
  have HIN := Hid.mk2 hin
  have HG := Hid.mk2 hg
  have HP := Hid.mk2 hp
  have HMV := Hid.mk2 hmv.2
  have HGB : Hid (∀ wx, GlobY wx → GlobB wx) := fun wx h => ⟨h.bytes, h.size⟩
  have hml' : (ms.length : Int) ≤ 9223372036854775807 := by have h := hml; simp [maxLen] at h; omega
  clear hs ht hin hg hp hmv hml
  go_enter Tryz.func5, Tryz.ntmps5
  go_upto_region 5 with (first
    | (go_at_call 11; refine (shelf_any s HS.out _).mono ?_; rintro e w1 ⟨hb1, l, a, c1, hsh, hl1, hl12, rfl, hown⟩; obtain ⟨gl, cap, hv, hbg, hglt, hcap, hxx⟩ := own_cells hown 0 (by omega); clear hxx; cases hv; have HSL := Hid.mk2 hsh; have HOW := Hid.mk2 hown; have HB1 := Hid.mk2 hb1; clear hsh hown hb1)
    | (go_at_call 12; refine (filled_known szB (by decide) (by rw [szB_list]; exact sz_known) l _ _ (HG.out.below HB1.out) (HGB.out _ (HP.out.below HB1.out)) HSL.out hl12 (reads_of_own HOW.out)).mono ?_; rintro e w2 ⟨rfl, hst, hb2⟩; have HS1 : Hid (StoreAt w2 w1.heap.size l szI) := hst; have HRL := Hid.mk2 (reads_of_own (own_below HOW.out hb2)); have HB2 := Hid.mk2 (HB1.out.trans (hb2.mono HB1.out.size)); have hs2 := hb2.size; clear hst hb2))
  generalize hs1 : w1.heap.size = s1 at *
  generalize hN1 : l.length = N1 at *
  have HN1 := Hid.mk2 hN1
  clear hs1 hN1 HOW HB1
  go_upto_region 9 with (first
    | (go_at_call 11; refine (shelf_any t HT.out _).mono ?_; rintro e w3 ⟨hb3, m, a, c2, hsh, hm1, hm12, rfl, hown⟩; obtain ⟨gm, cap, hv, hbg2, hglt2, hcap2, hxx⟩ := own_cells hown 0 (by omega); clear hxx; cases hv; have HSM := Hid.mk2 hsh; have HOW := Hid.mk2 hown; have HB3 := Hid.mk2 hb3; clear hsh hown hb3)
    | (go_at_call 12; refine (filled_known suB (by decide) (by rw [suB_list]; exact su_known) m _ _ ((HG.out.below HB2.out).below HB3.out) (HGB.out _ ((HP.out.below HB2.out).below HB3.out)) HSM.out hm12 (reads_of_own HOW.out)).mono ?_; rintro e w4 ⟨rfl, hst, hb4⟩; have HK0 : Hid (KM w2 w4 gm c2 m.length w3.heap.size m m (bsN (imageC suN [] suU))) := ⟨own_below HOW.out hb4, hst, HB3.out.trans (hb4.mono HB3.out.size)⟩; clear hst hb4))
  generalize him : bsN (imageC suN [] suU) = im2 at *
  generalize hsb : w3.heap.size = sb at *
  generalize hN2 : m.length = N at *
  have HN2 := Hid.mk2 hN2
  clear hsb hN2 HOW HB3 him
  go_upto_region 10 with (go_at_call 13; refine (item_any 0 0 0 (by decide) (by decide) (by decide) _).mono ?_; rintro e w5 ⟨⟨x, hx, rfl⟩, hb5⟩; unfold itmA; have HX := Hid.mk2 hx; have hxs := (HK0.out.below hb5).st.lt; replace HK0 := Hid.mk2 ((HK0.out.below hb5).al (.cells #[.int .i64 x.size, .int .i64 x.speed, .int .i64 x.need] 23)); have HIT := Hid.mk2 (Blk.new w5 #[.int .i64 x.size, .int .i64 x.speed, .int .i64 x.need] 23); clear hx hb5)
  generalize hwx : w5.alloc (.cells #[.int .i64 x.size, .int .i64 x.speed, .int .i64 x.need] 23) = wi at *
  generalize hxb : w5.heap.size = xb at *
  clear hwx hxb
  obtain ⟨bk, hbk⟩ : ∃ bk, (bestL (fun y => (szP x y).v) l).take (5 : Int).toNat = bk := ⟨_, rfl⟩
  have hbl : bk.length = min 5 N1 := by
    have h5 : (5 : Int).toNat = 5 := rfl
    rw [← hbk, List.length_take, bestL_length, HN1.out, h5]
  have hbk1 : 0 < bk.length := by omega
  have hbk5 : bk.length ≤ 5 := by omega
  have HBK := Hid.mk2 hbk
  have HL100 : Hid (l.length ≤ 100) := by rw [Hid, HN1.out]; omega
  have HSC : Hid (∀ y ∈ l, ScoresAt szI x (fun y => (szP x y).v) y) := fun y hy => sz_scores HX.out (HSL.out.ok y hy)
  clear hbk hbl
  have i0 := HIT.out.cell 0
  have i1 := HIT.out.cell 1
  have i2 := HIT.out.cell 2
  have hil := HIT.out.lt
  simp only [List.getElem?_toArray, List.getElem?_cons_zero, List.getElem?_cons_succ] at i0 i1 i2
  go_upto_region 11 with (go_at_call 14; refine (Rank_any x HX.out (fun y => (szP x y).v) s1 l szI szI_some HL100.out HSC.out 5 (by decide) (by omega) _ (HS1.out.below HK0.out.bl) ((HP.out.below HB2.out).below HK0.out.bl)).mono ?_; rintro e w6 ⟨hb6, v', rfl, ho6⟩; rw [HBK.out] at ho6; obtain ⟨gb, ob, cb, hv6, hcb, hgb, hcells⟩ := (reads_of_own ho6).pos hbk1; subst hv6; have HCE := Hid.mk2 hcells; have HBE := Hid.mk2 (Blk.new w6 #[.int .i64 0, .int .i64 0, .int .i64 0, .slice (some ⟨gb, ob, none⟩) bk.length cb] 53); have hb6s : sb < w6.heap.size := (HK0.out.below hb6).st.lt; clear i0 i1 i2 hil; replace HK0 := Hid.mk2 ((HK0.out.below hb6).al (.cells #[.int .i64 0, .int .i64 0, .int .i64 0, .slice (some ⟨gb, ob, none⟩) bk.length cb] 53)); replace HIT := Hid.mk2 ((HIT.out.below hb6 HIT.out.lt).alloc (.cells #[.int .i64 0, .int .i64 0, .int .i64 0, .slice (some ⟨gb, ob, none⟩) bk.length cb] 53)); replace HCE : Hid (∀ j u, (cellsQ bk)[j]? = some u → (w6.alloc (.cells #[.int .i64 0, .int .i64 0, .int .i64 0, .slice (some ⟨gb, ob, none⟩) bk.length cb] 53)).cell? ⟨gb, ob + j, none⟩ = some u) := (fun j u hj => ((box3 w6 _).cell (p := ⟨gb, ob + j, none⟩) hgb).trans (hcells j u hj)); have hgb2 : gb < (w6.alloc (.cells #[.int .i64 0, .int .i64 0, .int .i64 0, .slice (some ⟨gb, ob, none⟩) bk.length cb] 53)).heap.size := (by simp; omega); clear hb6 ho6 hcells hgb)
  generalize hwj : w6.alloc (.cells #[.int .i64 0, .int .i64 0, .int .i64 0, .slice (some ⟨gb, ob, none⟩) bk.length cb] 53) = wj at *
  generalize hbb : w6.heap.size = bb at *
  clear hwj hbb
  obtain ⟨MC, hMC⟩ : ∃ MC, MC = madeCells (Value.agg #[.int .i64 0, .int .i64 0]).cells (bk.length * 2) := ⟨_, rfl⟩
  have hmk : ∀ wx : World, (Instr.makeSlice 51 (.int .i64 bk.length) (.int .i64 bk.length)).run Tryz.prog wx = .ok (.slice (some ⟨wx.heap.size, 0, none⟩) bk.length bk.length) (wx.alloc (.cells MC 70)) := by
    intro wx
    have := run_make (P := Tryz.prog) wx 51 70 ip _ Tryz.underlying51 hip hy0 .i64 .i64 bk.length bk.length (by omega) (by omega) (by rw [hy2]; omega) (by omega)
    rw [this, hy1, Int.toNat_natCast, hMC]
  have HMZ : Hid (MC.size = bk.length * 2) := by rw [Hid, hMC]; simp [madeCells]
  clear hMC
  have r0 := HBE.out.cell 0
  have r3 := HBE.out.cell 3
  have hbe := HBE.out.lt
  simp only [List.getElem?_toArray, List.getElem?_cons_zero, List.getElem?_cons_succ] at r0 r3
  have HKB := Hid.mk2 (Blk.new wj MC 70)
  have HSRC : Hid (∀ j v, (cellsQ bk)[j]? = some v → (wj.alloc (.cells MC 70)).cell? ((⟨gb, ob, none⟩ : Addr).add j) = some v) := fun j v hj => by
    rw [show (⟨gb, ob, none⟩ : Addr).add j = ⟨gb, ob + j, none⟩ by unfold Addr.add; split <;> simp_all]
    exact ((box3 wj _).cell (p := ⟨gb, ob + j, none⟩) hgb2).trans (HCE.out j v hj)
  have HONE : Hid (∀ v ∈ cellsQ bk, v.oneCell' = true) := fun v hv => by
    simp only [cellsQ, List.mem_flatMap] at hv
    obtain ⟨p, _, hp⟩ := hv
    exact one_plc p v hp
  have hcp : (Builtin.copy_ #[ 51, 51] 3 #[.slice (some ⟨wj.heap.size, 0, none⟩) bk.length bk.length, .slice (some ⟨gb, ob, none⟩) bk.length cb]).run Tryz.prog (wj.alloc (.cells MC 70)) = .ok (goInt bk.length) ((wj.alloc (.cells MC 70)).setRow wj.heap.size (cellsQ bk).toArray) :=
    run_copy2 (P := Tryz.prog) _ 51 51 3 70 wj.heap.size bk.length bk.length ⟨gb, ob, none⟩ cb MC 70 (cellsQ bk) Tryz.underlying51 (by rw [hip, Option.map_some, hy1]) HKB.out (cellsQ_length bk) HSRC.out HMZ.out HONE.out
  go_upto_region 13 with fail
  have HBF := Hid.mk2 (below_setRow (B := wj.heap.size) (g := wj.heap.size) (box3 wj (.cells MC 70)) (Nat.le_refl _) (cellsQ bk).toArray)
  have HAP : Hid (AP w2 ((wj.alloc (.cells MC 70)).setRow wj.heap.size (cellsQ bk).toArray) gm c2 N sb xb bb wj.heap.size m m im2 x (.slice (some ⟨gb, ob, none⟩) bk.length cb) bk) :=
    ⟨HK0.out.below HBF.out, HIT.out.below HBF.out HIT.out.lt, HBE.out.below HBF.out HBE.out.lt, setRow_heap _ _ _ _ _ _ HKB.out, hxs, hb6s, HK0.out.st.lt⟩
  generalize hwf : (wj.alloc (.cells MC 70)).setRow wj.heap.size (cellsQ bk).toArray = wf at *
  generalize hkb : wj.heap.size = kb at *
  clear hwf hkb HKB HSRC HONE HBF HCE HK0 HIT HBE HMZ hmk r0 r3 hbe hcp
  go_wp2
  go_loopw [15] (fun vi wr => ∃ (i : Nat) (L : List Bn), i ≤ ms.length ∧ vi = .int .i64 i ∧ Shelf L ∧ L.length = N ∧ AP w2 wr gm c2 N sb xb bb kb L L im2 x (.slice (some ⟨gb, ob, none⟩) bk.length cb) bk) (fun i _ => ms.length - (intOf i).toNat)
  case atStart => exact ⟨0, m, Nat.zero_le _, rfl, HSM.out, HN2.out, HAP.out⟩
  case round =>
    clear HAP HSM HN2
    obtain ⟨i, L, hi, rfl, hsh, hN, hA⟩ := hrel
    have HSH := Hid.mk2 hsh
    have HNL := Hid.mk2 hN
    have HK := Hid.mk2 hA
    have HBW := Hid.mk2 (HB2.out.trans (hA.km.bl.mono HB2.out.size))
    have hgw := hA.km.glt
    have hsw := hA.km.st.lt
    have hxw := hA.it.lt
    have hbw := hA.be.lt
    have hkw := hA.ke.lt
    clear hsh hN hA
    by_cases hlt : i < ms.length
    · obtain ⟨g2, o2, cap2, hcut, hcap2', hg2, hc2⟩ := (HMV.out (by omega)).pos (by omega)
      cases hcut
      obtain ⟨c0, c1', c2'⟩ := mov_cells hc2 i hlt
      have m0 := (HBW.out.cell (p := ⟨g2, o2 + i * 3, none⟩) hg2).trans c0
      have m1 := (HBW.out.cell (p := ⟨g2, o2 + i * 3 + 1, none⟩) hg2).trans c1'
      have m2 := (HBW.out.cell (p := ⟨g2, o2 + i * 3 + 2, none⟩) hg2).trans c2'
      have HM := Hid.mk2 (HIN.out ms[i] (List.getElem_mem hlt))
      generalize hm : ms[i] = mm at *
      obtain ⟨mp, mb, mn⟩ := mm
      simp only at m0 m1 m2 HM
      clear hc2 c0 c1' c2' hm
      have hg2w : g2 < wr.heap.size := Nat.lt_of_lt_of_le hg2 HBW.out.size
      go_upto_region 17 with (go_at_call 24; refine (pick_any mb N HM.out.1 (by omega) _).mono ?_; rintro e w9 ⟨⟨r, hr0, hr1, rfl⟩, hw9⟩; subst w9; obtain ⟨k, rfl⟩ : ∃ k : Nat, r = k := ⟨r.toNat, by omega⟩)
      have hkN : k < N := by omega
      have hkL : k < L.length := by rw [HNL.out]; exact hkN
      have HRL2 : Hid (wr.ownsRow w2.heap.size 25 5 (.slice (some ⟨gm, 0, none⟩) N c2) L.length (cellsB L)) := by rw [Hid, HNL.out]; exact HK.out.km.row
      obtain ⟨g3, cap3, hv3, hbg3, hg3, hcap3, hfr, e0, e1, e2, e3, e4⟩ := own_cells HRL2.out k hkL
      rw [HNL.out] at hv3 hcap3
      cases hv3
      have hLl : L.length ≤ 100 := by rw [HNL.out]; omega
      generalize hb : L[k] = b at *
      have HB := Hid.mk2 hb
      clear hb hfr
      go_cut [17, 18] from 60 to 149 (fun s17 s18 wx => ∃ zb b', s17 = .pointer (some ⟨zb, 0, none⟩) ∧ s18 = .bool true ∧ Blk wx zb #[.int .i64 b'.id, .int .i64 b'.zone, .int .i64 b'.cap, .int .i64 b'.used, .int .i64 b'.has] 25 ∧ b'.Ok ∧ Hid (b'.id = b.id) ∧ zb ≠ gm ∧ AP w2 wx gm c2 N sb xb bb kb L (L.set k b') im2 x (.slice (some ⟨gb, ob, none⟩) bk.length cb) bk)
      case first =>
        have y0 := ((box3 wr (.cells #[.int .i64 0, .int .i64 0, .int .i64 0, .int .i64 0, .int .i64 0] 25)).cell (p := ⟨gm, k * 5, none⟩) hgw).trans e0
        have y1 := ((box3 wr (.cells #[.int .i64 0, .int .i64 0, .int .i64 0, .int .i64 0, .int .i64 0] 25)).cell (p := ⟨gm, k * 5 + 1, none⟩) hgw).trans e1
        have y2 := ((box3 wr (.cells #[.int .i64 0, .int .i64 0, .int .i64 0, .int .i64 0, .int .i64 0] 25)).cell (p := ⟨gm, k * 5 + 2, none⟩) hgw).trans e2
        have y3 := ((box3 wr (.cells #[.int .i64 0, .int .i64 0, .int .i64 0, .int .i64 0, .int .i64 0] 25)).cell (p := ⟨gm, k * 5 + 3, none⟩) hgw).trans e3
        have y4 := ((box3 wr (.cells #[.int .i64 0, .int .i64 0, .int .i64 0, .int .i64 0, .int .i64 0] 25)).cell (p := ⟨gm, k * 5 + 4, none⟩) hgw).trans e4
        have x0 := ((box3 wr (.cells #[.int .i64 0, .int .i64 0, .int .i64 0, .int .i64 0, .int .i64 0] 25)).cell (p := ⟨g2, o2 + i * 3, none⟩) hg2w).trans m0
        have x1 := ((box3 wr (.cells #[.int .i64 0, .int .i64 0, .int .i64 0, .int .i64 0, .int .i64 0] 25)).cell (p := ⟨g2, o2 + i * 3 + 1, none⟩) hg2w).trans m1
        have x2 := ((box3 wr (.cells #[.int .i64 0, .int .i64 0, .int .i64 0, .int .i64 0, .int .i64 0] 25)).cell (p := ⟨g2, o2 + i * 3 + 2, none⟩) hg2w).trans m2
        go_region_with (go_at_call 25; refine (moved_any sb L im2 k hkL mp mb mn HM.out.2 HSH.out hLl b HB.out _ (by first | with_reducible exact HK.out.dr.km.st | with_reducible exact (HK.out.al (.cells #[.int .i64 0, .int .i64 0, .int .i64 0, .int .i64 0, .int .i64 0] 25)).dr.km.st)).mono ?_; rintro e w3 ⟨b', hok, hid, rfl, hs3, hb3, hr3⟩; unfold bnA; have HOK := Hid.mk2 hok; have HID := Hid.mk2 hid; (first | (have hb4 : But sb wr.drew w3 := (by with_reducible exact hb3); replace HK := Hid.mk2 (HK.out.dr.but hb4 hs3 hglt2 hbg2); clear hb4) | (have hb4 : But sb (wr.alloc (.cells #[.int .i64 0, .int .i64 0, .int .i64 0, .int .i64 0, .int .i64 0] 25)).drew w3 := (by with_reducible exact hb3); have hr4 : RowNew (wr.alloc (.cells #[.int .i64 0, .int .i64 0, .int .i64 0, .int .i64 0, .int .i64 0] 25)).drew w3 sb := (by with_reducible exact hr3); have hZ := (Blk.new wr #[.int .i64 0, .int .i64 0, .int .i64 0, .int .i64 0, .int .i64 0] 25).drew.but hb4 (by omega); have HOFF := Hid.mk2 (off_new HK.out.km.st hr4); replace HK := Hid.mk2 ((HK.out.al (.cells #[.int .i64 0, .int .i64 0, .int .i64 0, .int .i64 0, .int .i64 0] 25)).dr.but hb4 hs3 hglt2 hbg2); clear hb4 hr4)); clear hok hid hs3 hb3 hr3; try (have q0 := hZ.cell 0; have q1 := hZ.cell 1; have q2 := hZ.cell 2; have q3 := hZ.cell 3; have q4 := hZ.cell 4; have p0 := hZ.free 0; have p1 := hZ.free 1; have p2 := hZ.free 2; have p3 := hZ.free 3; have p4 := hZ.free 4))
        all_goals
          go_wp2_with fail
          go_meet
          case rel => first | (have hZ1 := hZ; exact ⟨_, b', rfl, rfl, ((((hZ.set 0 _).set 1 _).set 2 _).set 3 _).set 4 _, HOK.out, HID, (by omega), HK.out.oth5 wr.heap.size _ _ _ _ _ (by omega) (by omega) (by omega) HOFF.out (by omega) (by omega) (by omega)⟩) | exact ⟨_, b', rfl, rfl, Blk.new w3 _ _, HOK.out, HID, (by have := HK.out.km.glt; omega), HK.out.al _⟩
      case rest =>
        obtain ⟨zb, b', rfl, rfl, hz, hok, hid, hzg, hK2⟩ := hcut
        clear HRL2 e0 e1 e2 e3 e4 m0 m1 m2 HK hgw hsw hxw hbw hkw hg2w
        have HSH2 : Hid (Shelf (L.set k b')) := HSH.out.set k hkL b' (by rw [HB.out]; exact hid.out) hok
        have HN2 : Hid ((L.set k b').length = N) := by rw [Hid, List.length_set]; exact HNL.out
        have HK3 := Hid.mk2 (hK2.own5 k hkL b' hglt2 hbg2)
        have hg4 := hK2.km.glt
        have z0 := hz.cell 0
        have z1 := hz.cell 1
        have z2 := hz.cell 2
        have z3 := hz.cell 3
        have z4 := hz.cell 4
        have hzl := hz.lt
        have HRL2 : Hid (wc.ownsRow w2.heap.size 25 5 (.slice (some ⟨gm, 0, none⟩) N c2) L.length (cellsB L)) := by rw [Hid, HNL.out]; exact hK2.km.row
        obtain ⟨g5, cap5, hv5, hbg5, hg5, hcap5, hfr5, e0, e1, e2, e3, e4⟩ := own_cells HRL2.out k hkL
        rw [HNL.out] at hv5 hcap5
        cases hv5
        have f0 := hfr5 (k * 5)
        have f1 := hfr5 (k * 5 + 1)
        have f2 := hfr5 (k * 5 + 2)
        have f3 := hfr5 (k * 5 + 3)
        have f4 := hfr5 (k * 5 + 4)
        have hL2l : (L.set k b').length ≤ 100 := by rw [HN2.out]; omega
        generalize hL2 : L.set k b' = L2 at *
        clear hfr5 HRL2 hz hok hid hK2 hL2 HSH HB HNL hLl
        go_upto_region 19 with fail
        generalize hw7 : ((((wc.setCell ⟨gm, k * 5, none⟩ (.int .i64 b'.id)).setCell ⟨gm, k * 5 + 1, none⟩ (.int .i64 b'.zone)).setCell ⟨gm, k * 5 + 2, none⟩ (.int .i64 b'.cap)).setCell ⟨gm, k * 5 + 3, none⟩ (.int .i64 b'.used)).setCell ⟨gm, k * 5 + 4, none⟩ (.int .i64 b'.has) = w7 at *
        clear hw7 z0 z1 z2 z3 z4 hzl e0 e1 e2 e3 e4 f0 f1 f2 f3 f4 hg4 hzg hg5
        have hL2p : 0 < L2.length := by rw [HN2.out]; omega
        have hlp : 0 < l.length := by rw [HN1.out]; omega
        go_upto_region 23 with (first
          | (go_at_call_of 21 (Value.pointer (some (Addr.mk sb 0 none))); refine (stBins_any sb L2 _ _ HK3.out.km.st hL2l).mono ?_; rintro e w8 ⟨hb8, a8, c8, rfl, ho8⟩; obtain ⟨go, cpo, curo, hvo, hbo, hnco, hblo, hszo⟩ := own_block ho8 hL2p; cases hvo; have HN8 := Hid.mk2 (reads_of_own ho8); have HBO := Hid.mk2 hblo; have HB8 := Hid.mk2 hb8; have hgo8 := hblo.lt; clear hb8 ho8 hblo)
          | (go_at_call 21; refine (stBins_any s1 l szI _ (HS1.out.below (HK3.out.below HB8.out).km.bl) HL100.out).mono ?_; rintro e w9 ⟨hb9, a9, c9, rfl, ho9⟩; obtain ⟨gi, cpi, curi, hvi, hbi, hnci, hbli, hszi⟩ := own_block ho9 hlp; cases hvi; have HN9 := Hid.mk2 (reads_of_own ho9); have HBI := Hid.mk2 hbli; replace HN8 := Hid.mk2 (HN8.out.below hb9); replace HBO := Hid.mk2 (HBO.out.below hb9 HBO.out.lt); have HB9 := Hid.mk2 (HB8.out.trans (hb9.mono HB8.out.size)); have hgi9 := hbli.lt; clear hb9 ho9 hbli)
          | (go_at_call_of 22 (Value.slice (some (Addr.mk gm 0 none)) N c2); refine (sameBins_any L2 _ _ _ HN8.out (by rw [HN2.out]; exact reads_of_own (HK3.out.below HB9.out).km.row) hL2l).mono ?_; rintro e w10 ⟨rfl, hb10⟩; replace HN9 := Hid.mk2 (HN9.out.below hb10); replace HBO := Hid.mk2 (HBO.out.below hb10 HBO.out.lt); replace HBI := Hid.mk2 (HBI.out.below hb10 HBI.out.lt); have HB10 := Hid.mk2 (HB9.out.trans (hb10.mono HB9.out.size)); clear hb10)
          | (go_at_call 22; refine (sameBins_any l _ _ _ HN9.out (by rw [HN1.out]; exact HRL.out.below (HK3.out.below HB10.out).km.bl) HL100.out).mono ?_; rintro e w11 ⟨rfl, hb11⟩; replace HBO := Hid.mk2 (HBO.out.below hb11 HBO.out.lt); replace HBI := Hid.mk2 (HBI.out.below hb11 HBI.out.lt); have HB11 := Hid.mk2 (HB10.out.trans (hb11.mono HB10.out.size)); clear hb11))
        have hgoi : go < gi := by have := HB8.out.size; omega
        have hw78 := HB8.out.size
        clear HN8 HN9 HB8 HB9 HB10
        go_wp2
        go_loopw [23] (fun vj wr2 => ∃ (j : Nat) (cur : Array Value), j ≤ L2.length ∧ vj = .int .i64 j ∧ Blk wr2 go cur 25 ∧ cur.size = c8 * 5 ∧ Blk wr2 gi curi 25 ∧ Below w7.heap.size w7 wr2) (fun j _ => 1000 - (intOf j).toNat)
        case atStart => exact ⟨0, curo, Nat.zero_le _, rfl, HBO.out, hszo, HBI.out, HB11.out⟩
        case round =>
          clear HBO HBI HB11
          obtain ⟨j, cur, hj, rfl, hbo2, hsz2, hbi2, hb2'⟩ := hrel
          have HO2 := Hid.mk2 hbo2
          have HI2 := Hid.mk2 hbi2
          have HB2' := Hid.mk2 hb2'
          have HSZ := Hid.mk2 hsz2
          have hgo2 := hbo2.lt
          clear hbi2 hb2'
          by_cases hj2 : j < L2.length
          · obtain ⟨uu, hu⟩ := blk_some hbo2 (i := j * 5 + 3) (by rw [hsz2]; omega)
            have hfu := hbo2.free (j * 5 + 3)
            clear hbo2 hsz2
            go_wp2
            go_roundw
            case rel => exact ⟨j + 1, _, by omega, by go_num, HO2.out.set (j * 5 + 3) (.int .i64 5000), by rw [Array.size_setIfInBounds]; exact HSZ.out, HI2.out.other _ _ (by simp only; omega), HB2'.out.setCell (p := ⟨go, j * 5 + 3, none⟩) (by simp only; omega) _⟩
            case measure => simp [intOf]; omega
          · clear hbo2 hsz2 HO2 HSZ
            go_wp2
            go_loopw [24] (fun vj wr3 => ∃ (j : Nat) (cur : Array Value), j ≤ l.length ∧ vj = .int .i64 j ∧ Blk wr3 gi cur 25 ∧ cur.size = c9 * 5 ∧ Below w7.heap.size w7 wr3) (fun j _ => 1000 - (intOf j).toNat)
            case atStart => exact ⟨0, curi, Nat.zero_le _, rfl, HI2.out, hszi, HB2'.out⟩
            case round =>
              clear HI2 HB2' hgo2
              obtain ⟨q, cur3, hq, rfl, hbi3, hsz3, hb3'⟩ := hrel
              have HI3 := Hid.mk2 hbi3
              have HB3' := Hid.mk2 hb3'
              have HSZ3 := Hid.mk2 hsz3
              have hgi3 := hbi3.lt
              have hl100 : l.length ≤ 100 := HL100.out
              clear hb3'
              by_cases hq2 : q < l.length
              · obtain ⟨uu, hu⟩ := blk_some hbi3 (i := q * 5 + 1) (by rw [hsz3]; omega)
                have hfu := hbi3.free (q * 5 + 1)
                clear hbi3 hsz3
                go_wp2
                go_roundw
                case rel => exact ⟨q + 1, _, by omega, by go_num, HI3.out.set (q * 5 + 1) (.int .i64 (-1)), by rw [Array.size_setIfInBounds]; exact HSZ3.out, HB3'.out.setCell (p := ⟨gi, q * 5 + 1, none⟩) (by simp only; omega) _⟩
                case measure => simp [intOf]; omega
              · clear hbi3 hsz3 HI3 HSZ3
                have HK4 := Hid.mk2 (HK3.out.below HB3'.out)
                have i0 := HK4.out.it.cell 0
                have i1 := HK4.out.it.cell 1
                have i2 := HK4.out.it.cell 2
                have hil := HK4.out.it.lt
                simp only [List.getElem?_toArray, List.getElem?_cons_zero, List.getElem?_cons_succ] at i0 i1 i2
                have eb : ((bk.length : Int) == 0) = false := beq_eq_false_iff_ne.2 (by omega)
                go_upto_region 35 with (first
                  | (go_at_call 14; refine (Rank_any x HX.out (fun y => (szP x y).v) s1 l szI szI_some HL100.out HSC.out 5 (by decide) (by omega) _ (HS1.out.below HK4.out.km.bl) ((HP.out.below HB2.out).below HK4.out.km.bl)).mono ?_; rintro e w12 ⟨hb12, v', rfl, ho12⟩; rw [HBK.out] at ho12; obtain ⟨ga, cpa, cura, hva, hba, hnca, hbla, hsza⟩ := own_block ho12 hbk1; subst hva; have HRA := Hid.mk2 ((reads_of_own ho12).alloc (.cells #[.int .i64 0, .int .i64 0, .int .i64 0, .slice (some ⟨ga, 0, none⟩) bk.length cpa] 53)); have HBA := Hid.mk2 (hbla.alloc (.cells #[.int .i64 0, .int .i64 0, .int .i64 0, .slice (some ⟨ga, 0, none⟩) bk.length cpa] 53)); have HRK := Hid.mk2 (Blk.new w12 #[.int .i64 0, .int .i64 0, .int .i64 0, .slice (some ⟨ga, 0, none⟩) bk.length cpa] 53); have hb12s := hb12.size; have hba12 := hbla.lt; have HB12 := Hid.mk2 ((HB3'.out.trans (hb12.mono HB3'.out.size)).alloc (by have := HB3'.out.size; omega) (.cells #[.int .i64 0, .int .i64 0, .int .i64 0, .slice (some ⟨ga, 0, none⟩) bk.length cpa] 53)); clear hb12 ho12 hbla i0 i1 i2 hil)
                  | (go_at_call 23; refine (samePlaces_any bk (by omega) _ _ _ HRA.out (HK3.out.below HB12.out).keep).mono ?_; rintro e w13 ⟨rfl, hb13⟩; replace HBA := Hid.mk2 (HBA.out.below hb13 HBA.out.lt); replace HRK := Hid.mk2 (HRK.out.below hb13 HRK.out.lt); have HB13 := Hid.mk2 (HB12.out.trans (hb13.mono HB12.out.size)); have r0 := HRK.out.cell 0; have r3 := HRK.out.cell 3; have hrl := HRK.out.lt; have hal := HBA.out.lt; have fa := HBA.out.free 1; obtain ⟨ua, hua⟩ := blk_some HBA.out (i := 1) (by rw [hsza]; omega); simp only [List.getElem?_toArray, List.getElem?_cons_zero, List.getElem?_cons_succ] at r0 r3; clear hb13))
                have hsz3 := HB3'.out.size
                go_wp2
                go_roundw
                case rel => exact ⟨i + 1, L2, by omega, by go_num, HSH2.out, HN2.out, HK3.out.below (HB13.out.setCell (p := ⟨ga, 1, none⟩) (by simp only; omega) _)⟩
                case measure => simp [intOf]; omega
    · have r0 := HK.out.be.cell 0
      clear r0
      have HST := Hid.mk2 (store_new wr)
      have HK5 := Hid.mk2 (HK.out.al (.cells #[.slice none 0 0, .string { data := #[] }] 95))
      have i0 := HK5.out.it.cell 0
      have i1 := HK5.out.it.cell 1
      have i2 := HK5.out.it.cell 2
      simp only [List.getElem?_toArray, List.getElem?_cons_zero, List.getElem?_cons_succ] at i0 i1 i2
      go_upto_region 43 with (first
        | (go_at_call 26; refine (New_at _).mono ?_; rintro e _ ⟨rfl, rfl⟩)
        | (go_at_call 14; refine (Rank_none x wr.heap.size [] 5 _ HST.out).mono ?_; rintro e w12 ⟨hb12, rfl⟩; have HRK := Hid.mk2 (Blk.new w12 #[.int .i64 15, .int .i64 0, .int .i64 0, .slice none 0 0] 53); replace HST := Hid.mk2 ((HST.out.below hb12).below (box3 w12 (.cells #[.int .i64 15, .int .i64 0, .int .i64 0, .slice none 0 0] 53))); replace HK5 := Hid.mk2 ((HK5.out.below hb12).al (.cells #[.int .i64 15, .int .i64 0, .int .i64 0, .slice none 0 0] 53)); clear hb12 i0 i1 i2)
        | (go_at_call 21; refine (stBins_any wr.heap.size [] _ _ HST.out (by simp)).mono ?_; rintro e w13 ⟨hb13, a13, c13, rfl, ho13⟩; replace HRK := Hid.mk2 (HRK.out.below hb13 HRK.out.lt); replace HK5 := Hid.mk2 (HK5.out.below hb13); clear hb13 ho13; have r0 := HRK.out.cell 0; have hrl := HRK.out.lt; have s0 := HK5.out.be.cell 0; have s3 := HK5.out.be.cell 3; have hsl := HK5.out.be.lt; simp only [List.getElem?_toArray, List.getElem?_cons_zero, List.getElem?_cons_succ] at r0 s0 s3))
      have eg : decide (0 < (bk.length : Int)) = true := decide_eq_true (by omega)
      go_wp2
      go_ret
      exact ⟨HB2.out.trans (HK5.out.km.bl.mono HB2.out.size), rfl⟩
end Go.Proofs.YtnnbhebklnappaaGreatDoor
