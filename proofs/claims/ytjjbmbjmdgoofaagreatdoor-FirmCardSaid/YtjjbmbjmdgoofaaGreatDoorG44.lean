/-
  A store's Rank.
-/
import Derived.Test.YtjjbmbjmdgoofaaGreatDoorG43
import Derived.Test.YtjjbmbjmdgoofaaGreatDoorG23
import Derived.Deep.RegionWith
import Derived.Test.YtjjbmbjmdgoofaaGreatDoorG27
set_option linter.unusedVariables false
set_option linter.unusedSimpArgs false
namespace Go.Proofs.YtjjbmbjmdgoofaaGreatDoor
open Go.RowKit Go.Deep
structure RSt2 (w wx : World) (sb : Nat) (x : Itm) (bs : List Bn) (im : ByteArray) : Prop where
  st : StoreAt wx sb bs im
  it : Blk wx w.heap.size #[.int .i64 x.size, .int .i64 x.speed, .int .i64 x.need] 28
  rk : Blk wx (w.heap.size + 1) #[.int .i64 0, .int .i64 0, .int .i64 0, .slice none 0 0] 52
  gp : GlobY wx
  bl : Below w.heap.size w wx
theorem RSt2.below {w wx w' : World} {sb : Nat} {x : Itm} {bs : List Bn} {im : ByteArray} (h : RSt2 w wx sb x bs im) (hb : Below wx.heap.size wx w') : RSt2 w w' sb x bs im :=
  ⟨h.st.below hb, h.it.below hb h.it.lt, h.rk.below hb h.rk.lt, h.gp.below hb, h.bl.trans (hb.mono h.bl.size)⟩
theorem RSt2.dr {w wx : World} {sb : Nat} {x : Itm} {bs : List Bn} {im : ByteArray} (h : RSt2 w wx sb x bs im) : RSt2 w wx.drew sb x bs im := h.below (below_drewN (Below.refl _ wx) 1)
theorem RSt2.start {w : World} {sb : Nat} {bs : List Bn} {im : ByteArray} (h : StoreAt w sb bs im) (hg : GlobY w) (x : Itm) : RSt2 w ((w.alloc (.cells #[.int .i64 x.size, .int .i64 x.speed, .int .i64 x.need] 28)).alloc (.cells #[.int .i64 0, .int .i64 0, .int .i64 0, .slice none 0 0] 52)) sb x bs im := by
  have hb2 := two_below w (.cells #[.int .i64 x.size, .int .i64 x.speed, .int .i64 x.need] 28) (.cells #[.int .i64 0, .int .i64 0, .int .i64 0, .slice none 0 0] 52)
  have hrk := Blk.new (w.alloc (.cells #[.int .i64 x.size, .int .i64 x.speed, .int .i64 x.need] 28)) #[.int .i64 0, .int .i64 0, .int .i64 0, .slice none 0 0] 52
  have e3 : (w.alloc (.cells #[.int .i64 x.size, .int .i64 x.speed, .int .i64 x.need] 28)).heap.size = w.heap.size + 1 := by simp
  rw [e3] at hrk
  exact ⟨h.below hb2, (Blk.new w _ _).alloc _, hrk, hg.below hb2, hb2⟩
theorem sets4 {B rb : Nat} {w w1 : World} (h : Below B w w1) (hB : B ≤ rb) (a b c d : Value) : Below B w ((((w1.setCell ⟨rb, 0, none⟩ a).setCell ⟨rb, 1, none⟩ b).setCell ⟨rb, 2, none⟩ c).setCell ⟨rb, 3, none⟩ d) := (((h.setCell (p := ⟨rb, 0, none⟩) hB a).setCell (p := ⟨rb, 1, none⟩) hB b).setCell (p := ⟨rb, 2, none⟩) hB c).setCell (p := ⟨rb, 3, none⟩) hB d
set_option maxHeartbeats 4000000 in
set_option maxRecDepth 100000 in
theorem Rank_any (x : Itm) (hx : x.Ok) (sc : Bn → Int) (sb : Nat) (bs : List Bn) (im : ByteArray) (him : im.toList.isEmpty = false) (hbl : bs.length ≤ 100) (hs : ∀ y ∈ bs, ScoresAt im x sc y) (k : Int) (hk : In64 k) (hk0 : 0 ≤ k) (w : World) (h : StoreAt w sb bs im) (hg : GlobY w) :
    Calls Tryz.prog 17 #[.pointer (some ⟨sb, 0, none⟩), itmA x, .int .i64 k] w fun e w' => Below w.heap.size w w' ∧ ∃ v', e = .returned (.agg #[.int .i64 0, .int .i64 0, .int .i64 0, v']) ∧ w'.ownsRow (w.heap.size + 2) 88 2 v' ((bestL sc bs).take k.toNat).length (cellsQ ((bestL sc bs).take k.toNat)) := by
  have HM := Hid.mk2 (RSt2.start h hg x)
  have HS := Hid.mk2 hs
  obtain ⟨a, c, h1, h2⟩ := h.ok
  have c0 := h1.cell 0
  have c1 := h1.cell 1
  have hlt := h1.lt
  simp only [List.getElem?_toArray, List.getElem?_cons_zero, List.getElem?_cons_succ] at c0 c1
  have HXB : Hid (itmB x = true) := (itmB_iff x).2 hx
  have ek : decide (k < 0) = false := decide_eq_false (by omega)
  obtain ⟨lk, hlk⟩ : ∃ lk, (bestL sc bs).take k.toNat = lk := ⟨_, rfl⟩
  rw [hlk]
  have HLK := Hid.mk2 hlk
  have HRV : Hid (∀ wx, StoreAt wx sb bs im → ∀ a' c', wx.cell? ⟨sb, 0, none⟩ = some (.slice a' bs.length c') → Reads wx (.slice a' bs.length c') bs.length (cellsB bs)) := by
    intro wx hx2 a' c' hc
    obtain ⟨a2, c2, g1, g2⟩ := hx2.ok
    have := g1.cell 0
    simp only [List.getElem?_toArray, List.getElem?_cons_zero] at this
    rw [hc] at this
    cases this
    exact reads_of_own g2
  clear hs h hg h1 h2 hlk
  unfold itmA
  go_enter Tryz.func17, Tryz.ntmps17
  go_upto_region 7 with (go_at_call 36; refine (pIsItem_any x _).mono ?_; rintro e w1 ⟨rfl, hb1⟩; rw [HXB.out]; replace HM := Hid.mk2 (HM.out.below hb1); clear hb1 c0 c1; obtain ⟨a1, c1, g1, _⟩ := HM.out.st.ok; have s0 := g1.cell 0; have s1 := g1.cell 1; have hls := g1.lt; have i0 := HM.out.it.cell 0; have i1 := HM.out.it.cell 1; have i2 := HM.out.it.cell 2; have hli := HM.out.it.lt; have hlr := HM.out.rk.lt; simp only [List.getElem?_toArray, List.getElem?_cons_zero, List.getElem?_cons_succ] at s0 s1 i0 i1 i2; have HRD := Hid.mk2 (HRV.out _ HM.out.st _ _ s0); clear g1)
  go_region_with (go_at_call 37; refine (Best_any im x sc bs hbl HS.out _ k hk _ (by first | with_reducible exact HRD.out.drew | with_reducible exact HRD.out) (by first | with_reducible exact HM.out.dr.gp | with_reducible exact HM.out.gp)).mono ?_; rintro e w2 ⟨hb2, v', rfl, ho2⟩; rw [HLK.out] at ho2; obtain ⟨va, vc, hvs⟩ := (reads_of_own ho2).shape; subst hvs; have HO := Hid.mk2 (own_low (base' := w.heap.size + 2) ho2 (by first | omega | (simp; omega))); replace HM := Hid.mk2 (by first | with_reducible exact HM.out.dr.below hb2 | with_reducible exact HM.out.below hb2); clear hb2 ho2; have r0 := HM.out.rk.cell 0; have r1 := HM.out.rk.cell 1; have r2 := HM.out.rk.cell 2; have r3 := HM.out.rk.cell 3; have fr0 := HM.out.rk.free 0; have fr1 := HM.out.rk.free 1; have fr2 := HM.out.rk.free 2; have fr3 := HM.out.rk.free 3; have hrl := HM.out.rk.lt; simp only [List.getElem?_toArray, List.getElem?_cons_zero, List.getElem?_cons_succ] at r0 r1 r2 r3)
  all_goals
    go_wp2
    have hfb := (((HM.out.rk.set 0 (.int .i64 0)).set 1 (.int .i64 0)).set 2 (.int .i64 0)).set 3 (.slice va lk.length vc)
    have g0 := hfb.cell 0
    have g1 := hfb.cell 1
    have g2 := hfb.cell 2
    have g3 := hfb.cell 3
    refine bodyPost_ret (v := .agg #[.int .i64 0, .int .i64 0, .int .i64 0, (.slice va lk.length vc)]) (by simp [results, Tryz.results17, go_sem, g0, g1, g2, g3]) rfl ⟨?_, _, rfl, ?_⟩
    · exact sets4 HM.out.bl (by omega) _ _ _ _
    · exact own_setCell (own_setCell (own_setCell (own_setCell HO.out _ _ (by simp only; omega)) _ _ (by simp only; omega)) _ _ (by simp only; omega)) _ _ (by simp only; omega)
end Go.Proofs.YtjjbmbjmdgoofaaGreatDoor
namespace Go.Proofs.YtjjbmbjmdgoofaaGreatDoor
open Go.RowKit Go.Deep
theorem sits_bsN2 (l : List Nat) (h : ∀ b ∈ l, b < 256) : Sits (bsN l) 0 l := by
  intro i b hi
  have hlt : i < l.length := (List.getElem?_eq_some_iff.1 hi).1
  have hb : b < 256 := h b (List.mem_of_getElem? hi)
  have hsz : i < (bsN l).size := by rw [bsN_len]; exact hlt
  refine ⟨by rw [Nat.zero_add]; exact hsz, ?_⟩
  rw [Nat.zero_add, bt_get _ _ hsz]
  have e : (bsN l)[i] = UInt8.ofNat l[i] := by
    show (bsN l).data[i]'(by rw [ByteArray.size] at hsz; exact hsz) = _
    simp [bsN]
  have hl : l[i] = b := (List.getElem?_eq_some_iff.1 hi).2
  rw [e, hl]
  simp [UInt8.toNat_ofNat', Nat.mod_eq_of_lt hb]
theorem scores_of {x : Itm} (hx : x.Ok) {y : Bn} (hy : y.Ok) {b : PB} (hb : b.Ok x y) (hf : b.flt = 0) (hsm : ∀ z ∈ imgC b.high (b.code ++ [16]), z < 256) (h1 : 1 ≤ b.code.length) (hl : b.code.length ≤ 3000) (hst : b.steps ≤ b.code.length) {s : ByteArray} (hs : s = bsN (imgC b.high (b.code ++ [16]))) (wx : World) (hg : GlobY wx) :
    Calls Tryz.prog 66 #[.string s, itmA x, bnA y] wx fun e w' => Below wx.heap.size wx w' ∧ ∃ n : Nat, e = .returned (.agg #[.int .i64 1, .int .i64 b.v, .int .i64 n]) := by
  subst hs
  have hsit := sits_bsN2 _ hsm
  have hz : (bsN (imgC b.high (b.code ++ [16]))).size = b.code.length + 4 := by rw [bsN_len]; simp [imgC]
  obtain ⟨hh, l, hc, G, hlw⟩ := made_img hb hsit hz (by omega) h1
  have hr := made_run hb hsit ((bsN (imgC b.high (b.code ++ [16]))).size + 1) (by omega)
  rw [if_pos hf] at hr
  have hm : bt (bsN (imgC b.high (b.code ++ [16]))) 2 < 256 := by
    have := hsit.at (i := 2) (b := b.high) rfl
    have h2 := hsm b.high (by simp [imgC])
    rw [Nat.zero_add] at this
    omega
  refine (machineRun_any _ (by omega) l _ hm G hc hlw (by omega) x y ⟨hx, hy⟩ wx hg).mono ?_
  rintro e w' ⟨hbl, rfl⟩
  exact ⟨hbl, b.steps + 1, by rw [hr]; rfl⟩
end Go.Proofs.YtjjbmbjmdgoofaaGreatDoor
namespace Go.Proofs.YtjjbmbjmdgoofaaGreatDoor
open Go.RowKit
set_option maxHeartbeats 1000000 in
theorem item_any (a b c : Int) (ha : In64 a) (hb : In64 b) (hc : In64 c) (w : World) :
    Calls Tryz.prog 7 #[.int .i64 a, .int .i64 b, .int .i64 c] w fun e w' => (∃ x : Itm, x.Ok ∧ e = .returned (itmA x)) ∧ Below w.heap.size w w' := by
  have HA := Hid.mk2 ha
  have HB := Hid.mk2 hb
  have HC := Hid.mk2 hc
  clear ha hb hc
  go_enter Tryz.func7, Tryz.ntmps7
  go_wp2_with (first
    | (go_at_call_of 9 (Value.int IntKind.i64 1000); refine (pick_any a 1000 HA.out (by omega) _).mono ?_; rintro e _ ⟨⟨r1, h1, k1, rfl⟩, rfl⟩)
    | (go_at_call_of 9 (Value.int IntKind.i64 1001); refine (pick_any b 1001 HB.out (by omega) _).mono ?_; rintro e _ ⟨⟨r2, h2, k2, rfl⟩, rfl⟩)
    | (go_at_call_of 9 (Value.int IntKind.i64 3); refine (pick_any c 3 HC.out (by omega) _).mono ?_; rintro e _ ⟨⟨r3, h3, k3, rfl⟩, rfl⟩))
  refine bodyPost_ret (v := .agg #[.int .i64 (1 + r1), .int .i64 r2, .int .i64 r3]) (by simp [results, Tryz.results7, go_sem]) rfl ⟨⟨⟨1 + r1, r2, r3⟩, by unfold Itm.Ok; simp only; omega, rfl⟩, ?_⟩
  exact box3 w _
structure OutB (w wx : World) (fb : Nat) (k : Nat) (c1 c2 : Array Value) : Prop where
  b1 : Blk wx w.heap.size c1 31
  b2 : k = 1 ∨ Blk wx (w.heap.size + 1) c2 31
  bl : But fb w wx
  lt : fb < w.heap.size
  fed : FeedAt wx fb
theorem OutB.but {w wx w' : World} {fb k : Nat} {c1 c2 : Array Value} (h : OutB w wx fb k c1 c2) (hb : But fb wx w') (hf : FeedAt w' fb) : OutB w w' fb k c1 c2 :=
  have := h.lt
  ⟨h.b1.but hb (by omega), h.b2.imp id (fun h => h.but hb (by omega)), h.bl.trans hb, h.lt, hf⟩
theorem But.al {fb : Nat} {w wx : World} (h : But fb w wx) (o : Obj) : But fb w (wx.alloc o) := h.trans (But.of (box3 wx o))
theorem But.st {fb : Nat} {w wx : World} (h : But fb w wx) (b i : Nat) (hb : w.heap.size ≤ b) (v : Value) : But fb w (wx.setCell ⟨b, i, none⟩ v) :=
  ⟨h.os, h.tape, h.output, by simpa [World.setCell] using h.size, fun k h1 h2 => (Below.heap_setCell _ _ _ _ (by simp only; omega)).trans (h.block k h1 h2)⟩
theorem FeedAt.st {w : World} {fb : Nat} (h : FeedAt w fb) (b i : Nat) (v : Value) (hne : fb ≠ b) : FeedAt (w.setCell ⟨b, i, none⟩ v) fb := by
  obtain ⟨s, k, h1, h2⟩ := h.ok
  exact ⟨s, k, h1.other ⟨b, i, none⟩ v hne, h2⟩
theorem FeedAt.al {w : World} {fb : Nat} (h : FeedAt w fb) (o : Obj) : FeedAt (w.alloc o) fb := h.below (box3 w o)
theorem FeedAt.lt {w : World} {fb : Nat} (h : FeedAt w fb) : fb < w.heap.size := by
  obtain ⟨s, k, h1, _⟩ := h.ok
  exact h1.lt
set_option maxHeartbeats 2000000 in
set_option maxRecDepth 100000 in
theorem bin_any (id : Int) (hid : 0 ≤ id ∧ id ≤ 1000) (fb : Nat) (w : World) (h : FeedAt w fb) :
    Calls Tryz.prog 8 #[.int .i64 id, .pointer (some ⟨fb, 0, none⟩)] w fun e w' => (∃ y : Bn, y.Ok ∧ y.id = id ∧ e = .returned (bnA y)) ∧ FeedAt w' fb ∧ But fb w w' := by
  have hlt := h.lt
  have HQ : Hid (OutB w (w.alloc (.cells #[.int .i64 0, .int .i64 0, .int .i64 0, .int .i64 0, .int .i64 0] 31)) fb 1 #[.int .i64 0, .int .i64 0, .int .i64 0, .int .i64 0, .int .i64 0] #[]) := ⟨Blk.new w _ _, .inl rfl, (But.refl fb w).al _, hlt, h.al _⟩
  have HI := Hid.mk2 hid
  clear h hid
  go_enter Tryz.func8, Tryz.ntmps8
  go_wp2_with (first
    | (go_at_call_of 29 (Value.int IntKind.i64 10); refine (next_any 10 (by omega) fb _ HQ.out.fed).mono ?_; rintro e w1 ⟨⟨r1, h1, k1, rfl⟩, hF, hB⟩; replace HQ := Hid.mk2 (HQ.out.but hB hF); clear hF hB)
    | (go_at_call_of 29 (Value.int IntKind.i64 250); refine (next_any 250 (by omega) fb _ HQ.out.fed).mono ?_; rintro e w2 ⟨⟨r2, h2, k2, rfl⟩, hF, hB⟩; replace HQ := Hid.mk2 (HQ.out.but hB hF); clear hF hB)
    | (go_at_call_of 29 (Value.int IntKind.i64 3); refine (next_any 3 (by omega) fb _ HQ.out.fed).mono ?_; rintro e w3 ⟨⟨r3, h3, k3, rfl⟩, hF, hB⟩; replace HQ := Hid.mk2 (HQ.out.but hB hF); clear hF hB)
    | (go_at_call 29; refine (next_any (1 + 4 * r2 + 1) (by omega) fb _ (HQ.out.fed.al _)).mono ?_; rintro e w4 ⟨⟨r4, h4, k4, rfl⟩, hF, hB⟩
       have hlt3 : fb < w3.heap.size := HQ.out.fed.lt
       have hX := (Blk.new w3 #[.int .i64 id, .int .i64 r1, .int .i64 (1 + 4 * r2), .int .i64 0, .int .i64 r3] 31).but hB (by omega)
       have hz3' : w.heap.size < w3.heap.size := HQ.out.b1.lt
       have hne : w.heap.size ≠ w3.heap.size := by omega
       replace HQ := Hid.mk2 ((HQ.out.but (But.of (box3 w3 (.cells #[.int .i64 id, .int .i64 r1, .int .i64 (1 + 4 * r2), .int .i64 0, .int .i64 r3] 31))) (HQ.out.fed.al _)).but hB hF)
       have hXX := hX.set 3 (.int .i64 r4)
       have x0 := hXX.cell 0
       have x1 := hXX.cell 1
       have x2 := hXX.cell 2
       have x3 := hXX.cell 3
       have x4 := hXX.cell 4
       have fx := hX.free 3
       have c3 := hX.cell 3
       have hO := HQ.out.b1.other ⟨w3.heap.size, 3, none⟩ (.int .i64 r4) hne
       have o0 := hO.cell 0
       have o1 := hO.cell 1
       have o2 := hO.cell 2
       have o3 := hO.cell 3
       have o4 := hO.cell 4
       have f0 := hO.free 0
       have f1 := hO.free 1
       have f2 := hO.free 2
       have f3 := hO.free 3
       have f4 := hO.free 4
       have HO := Hid.mk2 hO
       clear hO hXX hX hF hB))
  have hfb := ((((HO.out.set 0 (.int .i64 id)).set 1 (.int .i64 r1)).set 2 (.int .i64 (1 + 4 * r2))).set 3 (.int .i64 r4)).set 4 (.int .i64 r3)
  have g0 := hfb.cell 0
  have g1 := hfb.cell 1
  have g2 := hfb.cell 2
  have g3 := hfb.cell 3
  have g4 := hfb.cell 4
  have hz3 : w.heap.size ≤ w3.heap.size := by omega
  refine bodyPost_ret (v := .agg #[.int .i64 id, .int .i64 r1, .int .i64 (1 + 4 * r2), .int .i64 r4, .int .i64 r3]) (by simp [results, Tryz.results8, go_sem, g0, g1, g2, g3, g4]) rfl ⟨⟨⟨id, r1, 1 + 4 * r2, r4, r3⟩, by have := HI.out; unfold Bn.Ok; simp only; omega, rfl, rfl⟩, ?_, ?_⟩
  · exact (((((HQ.out.fed.st w3.heap.size 3 _ (by omega)).st w.heap.size 0 _ (by omega)).st w.heap.size 1 _ (by omega)).st w.heap.size 2 _ (by omega)).st w.heap.size 3 _ (by omega)).st w.heap.size 4 _ (by omega)
  · exact (((((HQ.out.bl.st w3.heap.size 3 hz3 _).st w.heap.size 0 (Nat.le_refl _) _).st w.heap.size 1 (Nat.le_refl _) _).st w.heap.size 2 (Nat.le_refl _) _).st w.heap.size 3 (Nat.le_refl _) _).st w.heap.size 4 (Nat.le_refl _) _
end Go.Proofs.YtjjbmbjmdgoofaaGreatDoor
namespace Go.Proofs.YtjjbmbjmdgoofaaGreatDoor
open Go.RowKit
theorem cell_five_at (w : World) (x y z t u : Value) (e : TypeId) (b : Nat) (hb : b = w.heap.size) : ∀ j v, [x, y, z, t, u][j]? = some v → (w.alloc (.cells #[x, y, z, t, u] e)).cell? ((⟨b, 0, none⟩ : Addr).add j) = some v := by
  subst hb
  exact cell_five w x y z t u e
theorem own_step2 {w wr w2 : World} {base : Nat} {acc : List Bn} {v v' : Value} {b : Bn} {e : TypeId} {o : Obj} (hB : w.heap.size ≤ base) (hbel : Below w.heap.size w wr)
    (hown2 : w2.ownsRow base e 5 v' (acc.length + 1) (cellsB acc ++ [.int .i64 b.id, .int .i64 b.zone, .int .i64 b.cap, .int .i64 b.used, .int .i64 b.has])) (hg : (wr.alloc o).grownBy w2 v.ownBlock) (hown1 : wr.ownsRow base e 5 v acc.length (cellsB acc)) :
    w2.ownsRow base e 5 v' (acc ++ [b]).length (cellsB (acc ++ [b])) ∧ Below w.heap.size w w2 := by
  have hs1 := hbel.size
  refine ⟨?_, ?_⟩
  · rw [cellsB_snoc]
    simp only [cellB, List.length_append, List.length_cons, List.length_nil]
    exact hown2
  · exact (hbel.alloc (by omega) o).grown hg (by simp; omega) (fun k hk => by have := (hown1.lt k hk).1; omega)
theorem FeedAt.grown {w w' : World} {fb : Nat} {row : Option Nat} (h : FeedAt w fb) (hg : w.grownBy w' row) (hne : some fb ≠ row) : FeedAt w' fb := by
  obtain ⟨s, k, h1, h2⟩ := h.ok
  refine ⟨s, k, ?_, h2⟩
  unfold Blk; rw [hg.block fb h1.lt hne]; exact h1
theorem feed_new (w : World) (s : ByteArray) (hs : s.size ≤ maxLen) : FeedAt (w.alloc (.cells #[.string s, .int .i64 0] 35)) w.heap.size := ⟨s, 0, Blk.new w _ _, Nat.zero_le _, hs⟩
structure Made (w wr : World) (v : Value) (id : Int) (l : List Bn) : Prop where
  up : Shelf l
  lt : ∀ x ∈ l, x.id < id
  own : wr.ownsRow (w.heap.size + 1) 31 5 v l.length (cellsB l)
  fed : FeedAt wr w.heap.size
  bl : Below w.heap.size w wr
theorem Made.but {w wr w' : World} {v : Value} {id : Int} {l : List Bn} (h : Made w wr v id l) (hb : But w.heap.size wr w') (hf : FeedAt w' w.heap.size) : Made w w' v id l := by
  refine ⟨h.up, h.lt, own_but h.own hb fun k hk => ?_, hf, h.bl.trans (hb.below (Nat.le_refl _) h.bl.size)⟩
  have := (h.own.lt k hk).1
  omega
theorem Made.al {w wr : World} {v : Value} {id : Int} {l : List Bn} (h : Made w wr v id l) (o : Obj) : Made w (wr.alloc o) v id l := h.but (But.of (box3 wr o)) (h.fed.al o)
theorem Made.more {w wr : World} {v : Value} {id id' : Int} {l : List Bn} (h : Made w wr v id l) (hi : id ≤ id') : Made w wr v id' l := ⟨h.up, fun x hx => by have := h.lt x hx; omega, h.own, h.fed, h.bl⟩
theorem Made.snoc {w wr w2 : World} {v v' : Value} {id : Int} {l : List Bn} {y : Bn} {o : Obj} (h : Made w wr v id l) (hy : y.Ok) (hid : y.id = id)
    (hown2 : w2.ownsRow (w.heap.size + 1) 31 5 v' (l.length + 1) (cellsB l ++ [.int .i64 y.id, .int .i64 y.zone, .int .i64 y.cap, .int .i64 y.used, .int .i64 y.has])) (hg : (wr.alloc o).grownBy w2 v.ownBlock) : Made w w2 v' (id + 1) (l ++ [y]) := by
  obtain ⟨h1, h2⟩ := own_step2 (by omega) h.bl hown2 hg h.own
  refine ⟨h.up.snoc y (fun x hx => by rw [hid]; exact h.lt x hx) hy, fun x hx => ?_, h1, (h.fed.al o).grown hg ?_, h2⟩
  · rcases List.mem_append.1 hx with h3 | h3
    · have := h.lt x h3; omega
    · simp at h3; subst h3; omega
  · intro he
    have := (h.own.lt w.heap.size he.symm).1
    omega
set_option maxHeartbeats 2000000 in
theorem sameBins_any (l : List Bn) (va vb : Value) (w : World) (ha : Reads w va l.length (cellsB l)) (hb : Reads w vb l.length (cellsB l)) (hl : l.length ≤ 100) :
    Calls Tryz.prog 27 #[va, vb] w fun e w' => e = .returned (.bool true) ∧ Below w.heap.size w w' := by
  obtain ⟨a, c, rfl⟩ := ha.shape
  obtain ⟨a2, c2, rfl⟩ := hb.shape
  have HA := Hid.mk2 ha
  have HB := Hid.mk2 hb
  clear ha hb
  go_enter Tryz.func27, Tryz.ntmps27
  go_wp2
  go_loopw [5] (fun vi wr => ∃ i : Nat, i ≤ l.length ∧ vi = .int .i64 i ∧ Below w.heap.size w wr) (fun i _ => l.length - (intOf i).toNat)
  case atStart => exact ⟨0, Nat.zero_le _, rfl, Below.refl _ _⟩
  case round =>
    obtain ⟨i, hi, rfl, hbel⟩ := hrel
    by_cases hlt : i < l.length
    · obtain ⟨g, o, cap, hcut, hcap, hg, hc⟩ := HA.out.pos (by omega)
      cases hcut
      obtain ⟨g2, o2, cap2, hcut2, hcap2, hg2, hc2⟩ := HB.out.pos (by omega)
      cases hcut2
      obtain ⟨c0, c1, c2, c3, c4⟩ := bin_cells hc i hlt
      have e0 := (hbel.cell (p := ⟨g, o + i * 5, none⟩) hg).trans c0
      have e1 := (hbel.cell (p := ⟨g, o + i * 5 + 1, none⟩) hg).trans c1
      have e2 := (hbel.cell (p := ⟨g, o + i * 5 + 2, none⟩) hg).trans c2
      have e3 := (hbel.cell (p := ⟨g, o + i * 5 + 3, none⟩) hg).trans c3
      have e4 := (hbel.cell (p := ⟨g, o + i * 5 + 4, none⟩) hg).trans c4
      obtain ⟨c5, c6, c7, c8, c9⟩ := bin_cells hc2 i hlt
      have e5 := (hbel.cell (p := ⟨g2, o2 + i * 5, none⟩) hg2).trans c5
      have e6 := (hbel.cell (p := ⟨g2, o2 + i * 5 + 1, none⟩) hg2).trans c6
      have e7 := (hbel.cell (p := ⟨g2, o2 + i * 5 + 2, none⟩) hg2).trans c7
      have e8 := (hbel.cell (p := ⟨g2, o2 + i * 5 + 3, none⟩) hg2).trans c8
      have e9 := (hbel.cell (p := ⟨g2, o2 + i * 5 + 4, none⟩) hg2).trans c9
      generalize hx : l[i] = x at *
      clear hc hc2 c0 c1 c2 c3 c4 c5 c6 c7 c8 c9 hx
      go_wp2
      go_quiet (fail)
      go_wp2
      go_roundw
      case rel => exact ⟨i + 1, by omega, by go_num, below_drewN hbel _⟩
      case measure => simp [intOf]; omega
    · go_wp2
      go_ret
      exact ⟨rfl, hbel⟩
end Go.Proofs.YtjjbmbjmdgoofaaGreatDoor
namespace Go.Proofs.YtjjbmbjmdgoofaaGreatDoor
open Go.RowKit
end Go.Proofs.YtjjbmbjmdgoofaaGreatDoor
namespace Go.Proofs.YtjjbmbjmdgoofaaGreatDoor
open Go.RowKit
end Go.Proofs.YtjjbmbjmdgoofaaGreatDoor
namespace Go.Proofs.YtjjbmbjmdgoofaaGreatDoor
open Go.RowKit
end Go.Proofs.YtjjbmbjmdgoofaaGreatDoor
namespace Go.Proofs.YtjjbmbjmdgoofaaGreatDoor
open Go.RowKit
theorem insB_front {l : List Bn} {b : Bn} (h : ∀ x ∈ l, b.id < x.id) : insB l b = b :: l := by
  have := insB_at (l := l) (b := b) 0 (Nat.zero_le _) (fun j hj hj0 => by omega) (fun h0 h1 => by have := h l[0] (List.getElem_mem h0); omega)
  simpa using this
theorem addK_front {l : List Bn} {b : Bn} (hb : b.Ok) (h : ∀ x ∈ l, b.id < x.id) (hl : l.length < 12) : addK l b = 0 := by
  unfold addK
  rw [if_neg (by rw [(bnB_iff b).2 hb]; simp), findB_none (fun x hx => by have := h x hx; omega), if_neg (by simp), if_neg (by omega)]
theorem shelf_front {l : List Bn} (h : Shelf l) (j : Nat) (hj : j < l.length) : ∀ x ∈ l.drop (j + 1), l[j].id < x.id := by
  intro x hx
  obtain ⟨k, hk, rfl⟩ := List.getElem_of_mem hx
  rw [List.getElem_drop]
  simp at hk
  exact h.up j (j + 1 + k) hj (by omega) (by omega)
theorem store_new (w : World) : StoreAt (w.alloc (.cells #[.slice none 0 0, .string { data := #[] }] 82)) w.heap.size [] { data := #[] } := ⟨none, 0, Blk.new w _ _, World.ownsRow_nil _ _ _ _⟩
set_option maxHeartbeats 1000000 in
theorem New_at (w : World) :
    Calls Tryz.prog 13 #[] w fun e w' => e = .returned (.pointer (some ⟨w.heap.size, 0, none⟩)) ∧ w' = w.alloc (.cells #[.slice none 0 0, .string { data := #[] }] 82) := by
  go_enter Tryz.func13, Tryz.ntmps13
  go_wp2
  go_ret
  exact ⟨rfl, rfl⟩
end Go.Proofs.YtjjbmbjmdgoofaaGreatDoor
