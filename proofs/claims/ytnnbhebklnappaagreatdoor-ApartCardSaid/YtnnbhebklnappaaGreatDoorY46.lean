/-
  The best places: Best, where every bin scores.
  A store's Rank.
  Two policies: how they are read, and what their images do.
-/
import Derived.Test.YtnnbhebklnappaaGreatDoorY41
import Derived.Test.YtnnbhebklnappaaGreatDoorY45
import Derived.Deep.DeepCutAuto
set_option linter.unusedVariables false
set_option linter.unusedSimpArgs false
namespace Go.Proofs.YtnnbhebklnappaaGreatDoor
open Go.RowKit Go.Deep

def bestL (sc : Bn → Int) (bs : List Bn) : List Plc := bs.foldl (fun l b => withL l ⟨b.id, sc b⟩) []
theorem bestL_length (sc : Bn → Int) (bs : List Bn) : (bestL sc bs).length = bs.length := by
  have h : ∀ (bs : List Bn) (l : List Plc), (bs.foldl (fun l b => withL l ⟨b.id, sc b⟩) l).length = l.length + bs.length := by
    intro bs
    induction bs with
    | nil => intro l; rfl
    | cons b r ih => intro l; rw [List.foldl_cons, ih, withL_length, List.length_cons]; omega
  rw [bestL, h]
  simp
theorem bestL_take (sc : Bn → Int) (bs : List Bn) (i : Nat) (hi : i < bs.length) : bestL sc (bs.take (i + 1)) = withL (bestL sc (bs.take i)) ⟨bs[i].id, sc bs[i]⟩ := by
  unfold bestL
  rw [List.take_succ_eq_append_getElem hi, List.foldl_append]
  rfl
/-- The image scores this bin. -/
def ScoresAt (s : ByteArray) (x : Itm) (sc : Bn → Int) (y : Bn) : Prop := ∀ wx, GlobY wx → Calls Tryz.prog 40 #[.string s, itmA x, bnA y] wx fun e w' => Below wx.heap.size wx w' ∧ ∃ n : Nat, e = .returned (.agg #[.int .i64 1, .int .i64 (sc y), .int .i64 n])
/-- Memory while the best places are found. -/
structure BSt (w wr : World) (x : Itm) (bv v : Value) (bs : List Bn) (acc : List Plc) : Prop where
  it : Blk wr w.heap.size #[.int .i64 x.size, .int .i64 x.speed, .int .i64 x.need] 23
  rk : Blk wr (w.heap.size + 1) #[.int .i64 0, .int .i64 0, .int .i64 0, .slice none 0 0] 53
  own : wr.ownsRow (w.heap.size + 2) 70 2 v acc.length (cellsQ acc)
  rd : Reads wr bv bs.length (cellsB bs)
  gp : GlobY wr
  bl : Below w.heap.size w wr
theorem BSt.below {w wr w' : World} {x : Itm} {bv v : Value} {bs : List Bn} {acc : List Plc} (h : BSt w wr x bv v bs acc) (hb : Below wr.heap.size wr w') : BSt w w' x bv v bs acc :=
  ⟨h.it.below hb h.it.lt, h.rk.below hb h.rk.lt, own_below h.own hb, h.rd.below hb, h.gp.below hb, h.bl.trans (hb.mono h.bl.size)⟩
theorem BSt.al {w wr : World} {x : Itm} {bv v : Value} {bs : List Bn} {acc : List Plc} (h : BSt w wr x bv v bs acc) (o : Obj) : BSt w (wr.alloc o) x bv v bs acc := h.below (box3 wr o)
theorem BSt.dr {w wr : World} {x : Itm} {bv v : Value} {bs : List Bn} {acc : List Plc} (h : BSt w wr x bv v bs acc) : BSt w wr.drew x bv v bs acc := h.below (below_drewN (Below.refl _ wr) 1)
theorem BSt.more {w wr w' : World} {x : Itm} {bv v v' : Value} {bs : List Bn} {acc acc' : List Plc} (h : BSt w wr x bv v bs acc) (hb : Below wr.heap.size wr w') (ho : w'.ownsRow wr.heap.size 70 2 v' acc'.length (cellsQ acc')) : BSt w w' x bv v' bs acc' := by
  have h2 := h.below hb
  have := h.rk.lt
  exact ⟨h2.it, h2.rk, own_low ho (by omega), h2.rd, h2.gp, h2.bl⟩
set_option maxHeartbeats 4000000 in
set_option maxRecDepth 100000 in
theorem Best_any (s : ByteArray) (x : Itm) (sc : Bn → Int) (bs : List Bn) (hbl : bs.length ≤ 100) (hs : ∀ y ∈ bs, ScoresAt s x sc y) (bv : Value) (k : Int) (hk : In64 k) (w : World) (hr : Reads w bv bs.length (cellsB bs)) (hg : GlobY w) :
    Calls Tryz.prog 42 #[.string s, itmA x, bv, .int .i64 k] w fun e w' => Below w.heap.size w w' ∧ ∃ v', e = .returned (.agg #[.int .i64 0, .int .i64 0, .int .i64 0, v']) ∧ w'.ownsRow (w.heap.size + 2) 70 2 v' ((bestL sc bs).take k.toNat).length (cellsQ ((bestL sc bs).take k.toNat)) := by
  have HS := Hid.mk2 hs
  have hb2 := two_below w (.cells #[.int .i64 x.size, .int .i64 x.speed, .int .i64 x.need] 23) (.cells #[.int .i64 0, .int .i64 0, .int .i64 0, .slice none 0 0] 53)
  have HM : Hid (BSt w (((w.alloc (.cells #[.int .i64 x.size, .int .i64 x.speed, .int .i64 x.need] 23)).alloc (.cells #[.int .i64 0, .int .i64 0, .int .i64 0, .slice none 0 0] 53)).alloc (.cells #[] 70)) x bv (.slice (some ⟨w.heap.size + 1 + 1, 0, none⟩) 0 0) bs (bestL sc (bs.take 0))) := by
    have e := own_nilQ ((w.alloc (.cells #[.int .i64 x.size, .int .i64 x.speed, .int .i64 x.need] 23)).alloc (.cells #[.int .i64 0, .int .i64 0, .int .i64 0, .slice none 0 0] 53)) (w.heap.size + 2) (by simp)
    have e2 : ((w.alloc (.cells #[.int .i64 x.size, .int .i64 x.speed, .int .i64 x.need] 23)).alloc (.cells #[.int .i64 0, .int .i64 0, .int .i64 0, .slice none 0 0] 53)).heap.size = w.heap.size + 1 + 1 := by simp
    rw [e2] at e
    have hrk := Blk.new (w.alloc (.cells #[.int .i64 x.size, .int .i64 x.speed, .int .i64 x.need] 23)) #[.int .i64 0, .int .i64 0, .int .i64 0, .slice none 0 0] 53
    have e3 : (w.alloc (.cells #[.int .i64 x.size, .int .i64 x.speed, .int .i64 x.need] 23)).heap.size = w.heap.size + 1 := by simp
    rw [e3] at hrk
    exact ⟨((Blk.new w _ _).alloc _).alloc _, hrk.alloc _, e, (hr.below hb2).alloc _, (hg.below hb2).below (box3 _ _), three_below w _ _ _⟩
  obtain ⟨a, c, rfl⟩ := hr.shape
  obtain ⟨lk, hlk⟩ : ∃ lk, (bestL sc bs).take k.toNat = lk := ⟨_, rfl⟩
  rw [hlk]
  have HLK := Hid.mk2 hlk
  clear hlk hs hr hg hb2
  unfold itmA
  go_enter Tryz.func42, Tryz.ntmps42
  go_wp2
  generalize ((w.alloc (.cells #[.int .i64 x.size, .int .i64 x.speed, .int .i64 x.need] 23)).alloc (.cells #[.int .i64 0, .int .i64 0, .int .i64 0, .slice none 0 0] 53)).alloc (.cells #[] 70) = w0 at HM ⊢
  go_loopw [9, 10] (fun v vi wr => ∃ i : Nat, i ≤ bs.length ∧ vi = .int .i64 i ∧ BSt w wr x (.slice a bs.length c) v bs (bestL sc (bs.take i))) (fun _ i _ => 1000 - (intOf i).toNat)
  case atStart => exact ⟨0, Nat.zero_le _, rfl, HM.out⟩
  case round =>
    obtain ⟨i, hi, rfl, hm⟩ := hrel
    clear HM
    have HQ := Hid.mk2 hm
    by_cases hlt : i < bs.length
    · obtain ⟨g, o, cap, hcut, hcap, hg, hc⟩ := hm.rd.pos (by omega)
      cases hcut
      obtain ⟨d0, d1, d2, d3, d4⟩ := bin_cells hc i hlt
      have HYS := Hid.mk2 (HS.out bs[i] (List.getElem_mem hlt))
      have HTK := Hid.mk2 (bestL_take sc bs i hlt)
      obtain ⟨y, hy⟩ : ∃ y, bs[i] = y := ⟨_, rfl⟩
      rw [hy] at d0 d1 d2 d3 d4 HYS HTK
      have HYD : Hid (∀ wx, BSt w wx x (.slice (some ⟨g, o, none⟩) bs.length c) u9 bs (bestL sc (bs.take i)) → g < wx.heap.size ∧ wx.cell? ⟨g, o + i * 5, none⟩ = some (.int .i64 y.id)) := by
        intro wx hx
        obtain ⟨g', o', cap', hcut', _, hg', hc'⟩ := hx.rd.pos (by omega)
        cases hcut'
        have := (bin_cells hc' i hlt).1
        rw [hy] at this
        exact ⟨hg', this⟩
      have hit := hm.it.lt
      have hrk := hm.rk.lt
      have i0 := hm.it.cell 0
      have i1 := hm.it.cell 1
      have i2 := hm.it.cell 2
      simp only [List.getElem?_toArray, List.getElem?_cons_zero, List.getElem?_cons_succ] at i0 i1 i2
      have hll : (bestL sc (bs.take i)).length ≤ 1000 := by rw [bestL_length]; simp; omega
      obtain ⟨acc, hacc⟩ : ∃ acc, bestL sc (bs.take i) = acc := ⟨_, rfl⟩
      rw [hacc] at HQ HTK hll HYD
      clear hm hc hy hacc
      go_upto_region 5 with fail
      go_cut [11] from 13 to 49 (fun s11 wx => ∃ zb n, s11 = .pointer (some ⟨zb, 0, none⟩) ∧ Blk wx zb #[.int .i64 1, .int .i64 (sc y), .int .i64 (n : Nat)] 41 ∧ BSt w wx x (.slice (some ⟨g, o, none⟩) bs.length c) u9 bs acc)
      case first =>
        go_region_with (go_at_call 40; refine (HYS.out _ (by first | with_reducible exact HQ.out.dr.gp | with_reducible exact (HQ.out.al (.cells #[.int .i64 0, .int .i64 0, .int .i64 0] 41)).dr.gp)).mono ?_; rintro e w8 ⟨hb8, n, rfl⟩; (first | (have hb9 : Below wr.drew.heap.size wr.drew w8 := (by with_reducible exact hb8); have HBX : Hid (Below wr.heap.size wr w8) := (below_drewN (Below.refl _ wr) 1).trans hb9; clear hb9) | (have hb9 : Below (wr.alloc (.cells #[.int .i64 0, .int .i64 0, .int .i64 0] 41)).drew.heap.size (wr.alloc (.cells #[.int .i64 0, .int .i64 0, .int .i64 0] 41)).drew w8 := (by with_reducible exact hb8); have hZ := (Blk.new wr #[.int .i64 0, .int .i64 0, .int .i64 0] 41).drew.below hb9 (by simp); have HBX : Hid (Below wr.heap.size wr w8) := (below_drewN (box3 wr (.cells #[.int .i64 0, .int .i64 0, .int .i64 0] 41)) 1).trans (hb9.mono (by simp)); clear hb9)); clear hb8; try (have q0 := hZ.cell 0; have q1 := hZ.cell 1; have q2 := hZ.cell 2; have z0 := hZ.free 0; have z1 := hZ.free 1; have z2 := hZ.free 2))
        all_goals
          go_wp2_with fail
          go_meet
          case rel => first | (have hZ1 := hZ; exact ⟨_, n, rfl, ((hZ.set 0 _).set 1 _).set 2 _, HQ.out.below (((HBX.out.setCell (p := ⟨wr.heap.size, 0, none⟩) (Nat.le_refl _) _).setCell (p := ⟨wr.heap.size, 1, none⟩) (Nat.le_refl _) _).setCell (p := ⟨wr.heap.size, 2, none⟩) (Nat.le_refl _) _)⟩) | exact ⟨_, n, rfl, Blk.new w8 _ _, (HQ.out.below HBX.out).al _⟩
      case rest =>
        obtain ⟨zb, n, rfl, hz, hq⟩ := hcut
        clear HQ i0 i1 i2 hit hrk d0 d1 d2 d3 d4
        have HQ := Hid.mk2 hq
        have HZ := Hid.mk2 hz
        have z0 := hz.cell 0
        have z1 := hz.cell 1
        have hzl := hz.lt
        simp only [List.getElem?_toArray, List.getElem?_cons_zero, List.getElem?_cons_succ] at z0 z1
        obtain ⟨hgl, d0⟩ := HYD.out _ hq
        clear hz hq
        go_upto_region 10 with fail
        go_region_with (go_at_call 69; refine (rwith_any acc hll ⟨y.id, sc y⟩ _ _ (by first | with_reducible exact reads_of_own HQ.out.dr.own | with_reducible exact reads_of_own HQ.out.own)).mono ?_; rintro e w9 ⟨hb9, v', rfl, ho9⟩; have HQ2 := Hid.mk2 (by first | with_reducible exact HQ.out.dr.more hb9 ho9 | with_reducible exact HQ.out.more hb9 ho9); clear hb9 ho9)
        all_goals
          go_wp2
          go_roundw
          case rel => exact ⟨i + 1, by omega, by go_num, by rw [HTK.out]; exact HQ2.out⟩
          case measure => simp [intOf]; omega
    · have hin : i = bs.length := by omega
      subst hin
      rw [List.take_length] at hm HQ
      have hll : (bestL sc bs).length ≤ 1000 := by rw [bestL_length]; omega
      have hrk := hm.rk.lt
      have r0 := hm.rk.cell 0
      clear hm r0
      go_wp2_with (go_at_call 70; refine (rfirst_any _ hll k hk _ _ (reads_of_own HQ.out.own)).mono ?_; rintro e w9 ⟨hb9, v', rfl, ho9⟩; rw [HLK.out] at ho9; obtain ⟨va, vc, hvs⟩ := (reads_of_own ho9).shape; subst hvs; have HO := Hid.mk2 (own_low (base' := w.heap.size + 2) ho9 (by omega)); replace HQ := Hid.mk2 (HQ.out.below hb9); clear hb9 ho9; have r0 := HQ.out.rk.cell 0; have r1 := HQ.out.rk.cell 1; have r2 := HQ.out.rk.cell 2; have r3 := HQ.out.rk.cell 3; have fr0 := HQ.out.rk.free 0; have fr1 := HQ.out.rk.free 1; have fr2 := HQ.out.rk.free 2; have fr3 := HQ.out.rk.free 3; have hrl := HQ.out.rk.lt; simp only [List.getElem?_toArray, List.getElem?_cons_zero, List.getElem?_cons_succ] at r0 r1 r2 r3)
      have hfb := (((HQ.out.rk.set 0 (.int .i64 0)).set 1 (.int .i64 0)).set 2 (.int .i64 0)).set 3 (.slice va lk.length vc)
      have g0 := hfb.cell 0
      have g1 := hfb.cell 1
      have g2 := hfb.cell 2
      have g3 := hfb.cell 3
      refine bodyPost_ret (v := .agg #[.int .i64 0, .int .i64 0, .int .i64 0, (.slice va lk.length vc)]) (by simp [results, Tryz.results42, go_sem, g0, g1, g2, g3]) rfl ⟨?_, _, rfl, ?_⟩
      · exact (((HQ.out.bl.setCell (p := ⟨w.heap.size + 1, 0, none⟩) (by simp only; omega) _).setCell (p := ⟨w.heap.size + 1, 1, none⟩) (by simp only; omega) _).setCell (p := ⟨w.heap.size + 1, 2, none⟩) (by simp only; omega) _).setCell (p := ⟨w.heap.size + 1, 3, none⟩) (by simp only; omega) _
      · exact own_setCell (own_setCell (own_setCell (own_setCell HO.out _ _ (by simp only; omega)) _ _ (by simp only; omega)) _ _ (by simp only; omega)) _ _ (by simp only; omega)
end Go.Proofs.YtnnbhebklnappaaGreatDoor

set_option linter.unusedVariables false
set_option linter.unusedSimpArgs false
namespace Go.Proofs.YtnnbhebklnappaaGreatDoor
open Go.RowKit Go.Deep

/-- Memory of a store's Rank. -/
structure RSt2 (w wx : World) (sb : Nat) (x : Itm) (bs : List Bn) (im : ByteArray) : Prop where
  st : StoreAt wx sb bs im
  it : Blk wx w.heap.size #[.int .i64 x.size, .int .i64 x.speed, .int .i64 x.need] 23
  rk : Blk wx (w.heap.size + 1) #[.int .i64 0, .int .i64 0, .int .i64 0, .slice none 0 0] 53
  gp : GlobY wx
  bl : Below w.heap.size w wx
theorem RSt2.below {w wx w' : World} {sb : Nat} {x : Itm} {bs : List Bn} {im : ByteArray} (h : RSt2 w wx sb x bs im) (hb : Below wx.heap.size wx w') : RSt2 w w' sb x bs im :=
  ⟨h.st.below hb, h.it.below hb h.it.lt, h.rk.below hb h.rk.lt, h.gp.below hb, h.bl.trans (hb.mono h.bl.size)⟩
theorem RSt2.dr {w wx : World} {sb : Nat} {x : Itm} {bs : List Bn} {im : ByteArray} (h : RSt2 w wx sb x bs im) : RSt2 w wx.drew sb x bs im := h.below (below_drewN (Below.refl _ wx) 1)
theorem RSt2.start {w : World} {sb : Nat} {bs : List Bn} {im : ByteArray} (h : StoreAt w sb bs im) (hg : GlobY w) (x : Itm) : RSt2 w ((w.alloc (.cells #[.int .i64 x.size, .int .i64 x.speed, .int .i64 x.need] 23)).alloc (.cells #[.int .i64 0, .int .i64 0, .int .i64 0, .slice none 0 0] 53)) sb x bs im := by
  have hb2 := two_below w (.cells #[.int .i64 x.size, .int .i64 x.speed, .int .i64 x.need] 23) (.cells #[.int .i64 0, .int .i64 0, .int .i64 0, .slice none 0 0] 53)
  have hrk := Blk.new (w.alloc (.cells #[.int .i64 x.size, .int .i64 x.speed, .int .i64 x.need] 23)) #[.int .i64 0, .int .i64 0, .int .i64 0, .slice none 0 0] 53
  have e3 : (w.alloc (.cells #[.int .i64 x.size, .int .i64 x.speed, .int .i64 x.need] 23)).heap.size = w.heap.size + 1 := by simp
  rw [e3] at hrk
  exact ⟨h.below hb2, (Blk.new w _ _).alloc _, hrk, hg.below hb2, hb2⟩
theorem bs_ne {a b : ByteArray} (h : a ≠ b) : (a == b) = false := by
  cases hb : (a == b) with
  | false => rfl
  | true =>
    exfalso
    apply h
    cases a with | mk x => cases b with | mk y =>
    have : (x == y) = true := hb
    rw [eq_of_beq this]
theorem sets4 {B rb : Nat} {w w1 : World} (h : Below B w w1) (hB : B ≤ rb) (a b c d : Value) : Below B w ((((w1.setCell ⟨rb, 0, none⟩ a).setCell ⟨rb, 1, none⟩ b).setCell ⟨rb, 2, none⟩ c).setCell ⟨rb, 3, none⟩ d) := (((h.setCell (p := ⟨rb, 0, none⟩) hB a).setCell (p := ⟨rb, 1, none⟩) hB b).setCell (p := ⟨rb, 2, none⟩) hB c).setCell (p := ⟨rb, 3, none⟩) hB d
set_option maxHeartbeats 4000000 in
set_option maxRecDepth 100000 in
theorem Rank_any (x : Itm) (hx : x.Ok) (sc : Bn → Int) (sb : Nat) (bs : List Bn) (im : ByteArray) (him : im.toList.isEmpty = false) (hbl : bs.length ≤ 100) (hs : ∀ y ∈ bs, ScoresAt im x sc y) (k : Int) (hk : In64 k) (hk0 : 0 ≤ k) (w : World) (h : StoreAt w sb bs im) (hg : GlobY w) :
    Calls Tryz.prog 14 #[.pointer (some ⟨sb, 0, none⟩), itmA x, .int .i64 k] w fun e w' => Below w.heap.size w w' ∧ ∃ v', e = .returned (.agg #[.int .i64 0, .int .i64 0, .int .i64 0, v']) ∧ w'.ownsRow (w.heap.size + 2) 70 2 v' ((bestL sc bs).take k.toNat).length (cellsQ ((bestL sc bs).take k.toNat)) := by
  have HM := Hid.mk2 (RSt2.start h hg x)
  have HS := Hid.mk2 hs
  obtain ⟨a, c, h1, h2⟩ := h.ok
  have c0 := h1.cell 0
  have c1 := h1.cell 1
  have hlt := h1.lt
  simp only [List.getElem?_toArray, List.getElem?_cons_zero, List.getElem?_cons_succ] at c0 c1
  have HXB : Hid (itmB x = true) := (itmB_iff x).2 hx
  have ek : decide (k < 0) = false := decide_eq_false (by omega)
  obtain ⟨lk, hlk⟩ : ∃ lk, (bestL sc bs).take k.toNat = lk := ⟨_, rfl⟩
  rw [hlk]
  have HLK := Hid.mk2 hlk
  have HRV : Hid (∀ wx, StoreAt wx sb bs im → ∀ a' c', wx.cell? ⟨sb, 0, none⟩ = some (.slice a' bs.length c') → Reads wx (.slice a' bs.length c') bs.length (cellsB bs)) := by
    intro wx hx2 a' c' hc
    obtain ⟨a2, c2, g1, g2⟩ := hx2.ok
    have := g1.cell 0
    simp only [List.getElem?_toArray, List.getElem?_cons_zero] at this
    rw [hc] at this
    cases this
    exact reads_of_own g2
  clear hs h hg h1 h2 hlk
  unfold itmA
  go_enter Tryz.func14, Tryz.ntmps14
  go_upto_region 7 with (go_at_call 38; refine (pIsItem_any x _).mono ?_; rintro e w1 ⟨rfl, hb1⟩; rw [HXB.out]; replace HM := Hid.mk2 (HM.out.below hb1); clear hb1 c0 c1; obtain ⟨a1, c1, g1, _⟩ := HM.out.st.ok; have s0 := g1.cell 0; have s1 := g1.cell 1; have hls := g1.lt; have i0 := HM.out.it.cell 0; have i1 := HM.out.it.cell 1; have i2 := HM.out.it.cell 2; have hli := HM.out.it.lt; have hlr := HM.out.rk.lt; simp only [List.getElem?_toArray, List.getElem?_cons_zero, List.getElem?_cons_succ] at s0 s1 i0 i1 i2; have HRD := Hid.mk2 (HRV.out _ HM.out.st _ _ s0); clear g1)
  go_region_with (go_at_call 42; refine (Best_any im x sc bs hbl HS.out _ k hk _ (by first | with_reducible exact HRD.out.drew | with_reducible exact HRD.out) (by first | with_reducible exact HM.out.dr.gp | with_reducible exact HM.out.gp)).mono ?_; rintro e w2 ⟨hb2, v', rfl, ho2⟩; rw [HLK.out] at ho2; obtain ⟨va, vc, hvs⟩ := (reads_of_own ho2).shape; subst hvs; have HO := Hid.mk2 (own_low (base' := w.heap.size + 2) ho2 (by first | omega | (simp; omega))); replace HM := Hid.mk2 (by first | with_reducible exact HM.out.dr.below hb2 | with_reducible exact HM.out.below hb2); clear hb2 ho2; have r0 := HM.out.rk.cell 0; have r1 := HM.out.rk.cell 1; have r2 := HM.out.rk.cell 2; have r3 := HM.out.rk.cell 3; have fr0 := HM.out.rk.free 0; have fr1 := HM.out.rk.free 1; have fr2 := HM.out.rk.free 2; have fr3 := HM.out.rk.free 3; have hrl := HM.out.rk.lt; simp only [List.getElem?_toArray, List.getElem?_cons_zero, List.getElem?_cons_succ] at r0 r1 r2 r3)
  all_goals
    go_wp2
    have hfb := (((HM.out.rk.set 0 (.int .i64 0)).set 1 (.int .i64 0)).set 2 (.int .i64 0)).set 3 (.slice va lk.length vc)
    have g0 := hfb.cell 0
    have g1 := hfb.cell 1
    have g2 := hfb.cell 2
    have g3 := hfb.cell 3
    refine bodyPost_ret (v := .agg #[.int .i64 0, .int .i64 0, .int .i64 0, (.slice va lk.length vc)]) (by simp [results, Tryz.results14, go_sem, g0, g1, g2, g3]) rfl ⟨?_, _, rfl, ?_⟩
    · exact sets4 HM.out.bl (by omega) _ _ _ _
    · exact own_setCell (own_setCell (own_setCell (own_setCell HO.out _ _ (by simp only; omega)) _ _ (by simp only; omega)) _ _ (by simp only; omega)) _ _ (by simp only; omega)
set_option maxHeartbeats 1000000 in
set_option maxRecDepth 100000 in
theorem Rank_none (x : Itm) (sb : Nat) (bs : List Bn) (k : Int) (w : World) (h : StoreAt w sb bs { data := #[] }) :
    Calls Tryz.prog 14 #[.pointer (some ⟨sb, 0, none⟩), itmA x, .int .i64 k] w fun e w' => Below w.heap.size w w' ∧ e = .returned (.agg #[.int .i64 15, .int .i64 0, .int .i64 0, .slice none 0 0]) := by
  obtain ⟨a, c, h1, h2⟩ := h.ok
  have c0 := h1.cell 0
  have c1 := h1.cell 1
  have hlt := h1.lt
  simp only [List.getElem?_toArray, List.getElem?_cons_zero, List.getElem?_cons_succ] at c0 c1
  have hb2 := two_below w (.cells #[.int .i64 x.size, .int .i64 x.speed, .int .i64 x.need] 23) (.cells #[.int .i64 15, .int .i64 0, .int .i64 0, .slice none 0 0] 53)
  clear h h1 h2
  unfold itmA
  go_enter Tryz.func14, Tryz.ntmps14
  go_wp2
  refine bodyPost_ret (v := .agg #[.int .i64 15, .int .i64 0, .int .i64 0, .slice none 0 0]) (by simp [results, Tryz.results14, go_sem]) rfl ⟨?_, rfl⟩
  exact hb2
end Go.Proofs.YtnnbhebklnappaaGreatDoor

set_option linter.unusedVariables false
set_option linter.unusedSimpArgs false
namespace Go.Proofs.YtnnbhebklnappaaGreatDoor
open Go.RowKit Go.Deep

theorem sits_bsN2 (l : List Nat) (h : ∀ b ∈ l, b < 256) : Sits (bsN l) 0 l := by
  intro i b hi
  have hlt : i < l.length := (List.getElem?_eq_some_iff.1 hi).1
  have hb : b < 256 := h b (List.mem_of_getElem? hi)
  have hsz : i < (bsN l).size := by rw [bsN_len]; exact hlt
  refine ⟨by rw [Nat.zero_add]; exact hsz, ?_⟩
  rw [Nat.zero_add, bt_get _ _ hsz]
  have e : (bsN l)[i] = UInt8.ofNat l[i] := by
    show (bsN l).data[i]'(by rw [ByteArray.size] at hsz; exact hsz) = _
    simp [bsN]
  have hl : l[i] = b := (List.getElem?_eq_some_iff.1 hi).2
  rw [e, hl]
  simp [UInt8.toNat_ofNat', Nat.mod_eq_of_lt hb]
/-- An image that was made so scores. -/
theorem scores_of {x : Itm} (hx : x.Ok) {y : Bn} (hy : y.Ok) {b : PB} (hb : b.Ok x y) (hf : b.flt = 0) (hsm : ∀ z ∈ imgC b.high (b.code ++ [16]), z < 256) (h1 : 1 ≤ b.code.length) (hl : b.code.length ≤ 3000) (hst : b.steps ≤ b.code.length) {s : ByteArray} (hs : s = bsN (imgC b.high (b.code ++ [16]))) (wx : World) (hg : GlobY wx) :
    Calls Tryz.prog 40 #[.string s, itmA x, bnA y] wx fun e w' => Below wx.heap.size wx w' ∧ ∃ n : Nat, e = .returned (.agg #[.int .i64 1, .int .i64 b.v, .int .i64 n]) := by
  subst hs
  have hsit := sits_bsN2 _ hsm
  have hz : (bsN (imgC b.high (b.code ++ [16]))).size = b.code.length + 4 := by rw [bsN_len]; simp [imgC]
  obtain ⟨hh, l, hc, G, hlw⟩ := made_img hb hsit hz (by omega) h1
  have hr := made_run hb hsit ((bsN (imgC b.high (b.code ++ [16]))).size + 1) (by omega)
  rw [if_pos hf] at hr
  have hm : bt (bsN (imgC b.high (b.code ++ [16]))) 2 < 256 := by
    have := hsit.at (i := 2) (b := b.high) rfl
    have h2 := hsm b.high (by simp [imgC])
    rw [Nat.zero_add] at this
    omega
  refine (machineRun_any _ (by omega) l _ hm G hc hlw (by omega) x y ⟨hx, hy⟩ wx hg).mono ?_
  rintro e w' ⟨hbl, rfl⟩
  exact ⟨hbl, b.steps + 1, by rw [hr]; rfl⟩
/-- 'score 7 * zone;' -/
def szT : Txt := [115, 99, 111, 114, 101, 32, 55, 32, 42, 32, 122, 111, 110, 101, 59]
def szB : ByteArray := { data := #[115, 99, 111, 114, 101, 32, 55, 32, 42, 32, 122, 111, 110, 101, 59] }
theorem szB_list : szB.toList = szT := bsOf_toList szT
def szE : Tr := .bin ⟨[42], 8⟩ (.leaf ⟨[55], 6⟩) (.leaf ⟨[122, 111, 110, 101], 10⟩)
def szR : List RSt := [RSt.rule none ⟨[115, 99, 111, 114, 101], 0⟩ (some szE) ⟨[59], 14⟩]
theorem szE_wf : szE.wf := by
  refine ⟨⟨rfl, rfl⟩, by decide, by decide, by decide, by decide, by decide, ⟨⟨rfl, rfl, rfl, rfl⟩, by decide, by decide, by decide, by decide, by decide⟩, ⟨⟨rfl, rfl, rfl, rfl⟩, by decide, by decide, by decide, by decide, by decide⟩⟩
theorem sz_pol : PolicyOf szT [] szR := by
  refine ⟨by kernel_rfl, (fun s h => by cases h), fun s h => ?_, fun s h => ?_, fun t ht => ?_, by simp [szR], by decide⟩
  · simp only [szR, List.mem_singleton] at h; subst h; rfl
  · simp only [szR, List.nil_append, List.mem_singleton] at h
    subst h
    exact ⟨(fun k e he => by cases he), rfl, (fun e he => by cases he; exact szE_wf), rfl⟩
  · exact List.all_eq_true.1 (show (toksL ([] ++ szR)).all (fun t : RTok => mayT t.text) = true by kernel_rfl) t ht
def szN : List PNode := [⟨⟨[55], 6⟩, 0, 0, 0⟩, ⟨⟨[122, 111, 110, 101], 10⟩, 0, 0, 0⟩, ⟨⟨[42], 8⟩, 2, 0, 1⟩]
def szU : List PRule := [⟨false, noExp, true, ⟨6, 0, 3⟩⟩]
theorem sz_known : KnownP szT szN [] szU := by
  refine ⟨⟨[], szR, sz_pol, by kernel_rfl, by kernel_rfl, by kernel_rfl⟩, by kernel_rfl, Nat.le_of_ble_eq_true (by kernel_rfl), Nat.le_of_ble_eq_true (by kernel_rfl)⟩
def szP (x : Itm) (y : Bn) : PB := twoP 6 (leafI 7) (leafA 3 x y)
theorem sz_img (x : Itm) (y : Bn) : bsN (imageC szN [] szU) = bsN (imgC (szP x y).high ((szP x y).code ++ [16])) := by
  have e : imageC szN [] szU = [83, 76, 2, 0, 7, 0, 0, 0, 0, 0, 0, 0, 1, 3, 6, 16] := by kernel_rfl
  rw [e]
  rfl
end Go.Proofs.YtnnbhebklnappaaGreatDoor
