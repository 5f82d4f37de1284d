/-
  An item and a bin out of raw numbers and bytes: item, bin, around.
-/
import Derived.Test.YtjjbmbjmdgoofaaGreatDoorB27
import Derived.Deep.RegionWith
import Derived.Test.YtjjbmbjmdgoofaaGreatDoorB33
set_option linter.unusedVariables false
set_option linter.unusedSimpArgs false
namespace Go.Proofs.YtjjbmbjmdgoofaaGreatDoor
open Go.RowKit
set_option maxHeartbeats 1000000 in
theorem item_any (a b c : Int) (ha : In64 a) (hb : In64 b) (hc : In64 c) (w : World) :
    Calls Tryz.prog 7 #[.int .i64 a, .int .i64 b, .int .i64 c] w fun e w' => (∃ x : Itm, x.Ok ∧ e = .returned (itmA x)) ∧ Below w.heap.size w w' := by
  have HA := Hid.mk2 ha
  have HB := Hid.mk2 hb
  have HC := Hid.mk2 hc
  clear ha hb hc
  go_enter Tryz.func7, Tryz.ntmps7
  go_wp2_with (first
    | (go_at_call_of 9 (Value.int IntKind.i64 1000); refine (pick_any a 1000 HA.out (by omega) _).mono ?_; rintro e _ ⟨⟨r1, h1, k1, rfl⟩, rfl⟩)
    | (go_at_call_of 9 (Value.int IntKind.i64 1001); refine (pick_any b 1001 HB.out (by omega) _).mono ?_; rintro e _ ⟨⟨r2, h2, k2, rfl⟩, rfl⟩)
    | (go_at_call_of 9 (Value.int IntKind.i64 3); refine (pick_any c 3 HC.out (by omega) _).mono ?_; rintro e _ ⟨⟨r3, h3, k3, rfl⟩, rfl⟩))
  refine bodyPost_ret (v := .agg #[.int .i64 (1 + r1), .int .i64 r2, .int .i64 r3]) (by simp [results, Tryz.results7, go_sem]) rfl ⟨⟨⟨1 + r1, r2, r3⟩, by unfold Itm.Ok; simp only; omega, rfl⟩, ?_⟩
  exact box3 w _
structure OutB (w wx : World) (fb : Nat) (k : Nat) (c1 c2 : Array Value) : Prop where
  b1 : Blk wx w.heap.size c1 31
  b2 : k = 1 ∨ Blk wx (w.heap.size + 1) c2 31
  bl : But fb w wx
  lt : fb < w.heap.size
  fed : FeedAt wx fb
theorem OutB.but {w wx w' : World} {fb k : Nat} {c1 c2 : Array Value} (h : OutB w wx fb k c1 c2) (hb : But fb wx w') (hf : FeedAt w' fb) : OutB w w' fb k c1 c2 :=
  have := h.lt
  ⟨h.b1.but hb (by omega), h.b2.imp id (fun h => h.but hb (by omega)), h.bl.trans hb, h.lt, hf⟩
theorem But.al {fb : Nat} {w wx : World} (h : But fb w wx) (o : Obj) : But fb w (wx.alloc o) := h.trans (But.of (box3 wx o))
theorem But.st {fb : Nat} {w wx : World} (h : But fb w wx) (b i : Nat) (hb : w.heap.size ≤ b) (v : Value) : But fb w (wx.setCell ⟨b, i, none⟩ v) :=
  ⟨h.os, h.tape, h.output, by simpa [World.setCell] using h.size, fun k h1 h2 => (Below.heap_setCell _ _ _ _ (by simp only; omega)).trans (h.block k h1 h2)⟩
theorem FeedAt.st {w : World} {fb : Nat} (h : FeedAt w fb) (b i : Nat) (v : Value) (hne : fb ≠ b) : FeedAt (w.setCell ⟨b, i, none⟩ v) fb := by
  obtain ⟨s, k, h1, h2⟩ := h.ok
  exact ⟨s, k, h1.other ⟨b, i, none⟩ v hne, h2⟩
theorem FeedAt.al {w : World} {fb : Nat} (h : FeedAt w fb) (o : Obj) : FeedAt (w.alloc o) fb := h.below (box3 w o)
theorem FeedAt.lt {w : World} {fb : Nat} (h : FeedAt w fb) : fb < w.heap.size := by
  obtain ⟨s, k, h1, _⟩ := h.ok
  exact h1.lt
set_option maxHeartbeats 2000000 in
set_option maxRecDepth 100000 in
theorem bin_any (id : Int) (hid : 0 ≤ id ∧ id ≤ 1000) (fb : Nat) (w : World) (h : FeedAt w fb) :
    Calls Tryz.prog 8 #[.int .i64 id, .pointer (some ⟨fb, 0, none⟩)] w fun e w' => (∃ y : Bn, y.Ok ∧ y.id = id ∧ e = .returned (bnA y)) ∧ FeedAt w' fb ∧ But fb w w' := by
  have hlt := h.lt
  have HQ : Hid (OutB w (w.alloc (.cells #[.int .i64 0, .int .i64 0, .int .i64 0, .int .i64 0, .int .i64 0] 31)) fb 1 #[.int .i64 0, .int .i64 0, .int .i64 0, .int .i64 0, .int .i64 0] #[]) := ⟨Blk.new w _ _, .inl rfl, (But.refl fb w).al _, hlt, h.al _⟩
  have HI := Hid.mk2 hid
  clear h hid
  go_enter Tryz.func8, Tryz.ntmps8
  go_wp2_with (first
    | (go_at_call_of 29 (Value.int IntKind.i64 10); refine (next_any 10 (by omega) fb _ HQ.out.fed).mono ?_; rintro e w1 ⟨⟨r1, h1, k1, rfl⟩, hF, hB⟩; replace HQ := Hid.mk2 (HQ.out.but hB hF); clear hF hB)
    | (go_at_call_of 29 (Value.int IntKind.i64 250); refine (next_any 250 (by omega) fb _ HQ.out.fed).mono ?_; rintro e w2 ⟨⟨r2, h2, k2, rfl⟩, hF, hB⟩; replace HQ := Hid.mk2 (HQ.out.but hB hF); clear hF hB)
    | (go_at_call_of 29 (Value.int IntKind.i64 3); refine (next_any 3 (by omega) fb _ HQ.out.fed).mono ?_; rintro e w3 ⟨⟨r3, h3, k3, rfl⟩, hF, hB⟩; replace HQ := Hid.mk2 (HQ.out.but hB hF); clear hF hB)
    | (go_at_call 29; refine (next_any (1 + 4 * r2 + 1) (by omega) fb _ (HQ.out.fed.al _)).mono ?_; rintro e w4 ⟨⟨r4, h4, k4, rfl⟩, hF, hB⟩
       have hlt3 : fb < w3.heap.size := HQ.out.fed.lt
       have hX := (Blk.new w3 #[.int .i64 id, .int .i64 r1, .int .i64 (1 + 4 * r2), .int .i64 0, .int .i64 r3] 31).but hB (by omega)
       have hz3' : w.heap.size < w3.heap.size := HQ.out.b1.lt
       have hne : w.heap.size ≠ w3.heap.size := by omega
       replace HQ := Hid.mk2 ((HQ.out.but (But.of (box3 w3 (.cells #[.int .i64 id, .int .i64 r1, .int .i64 (1 + 4 * r2), .int .i64 0, .int .i64 r3] 31))) (HQ.out.fed.al _)).but hB hF)
       have hXX := hX.set 3 (.int .i64 r4)
       have x0 := hXX.cell 0
       have x1 := hXX.cell 1
       have x2 := hXX.cell 2
       have x3 := hXX.cell 3
       have x4 := hXX.cell 4
       have fx := hX.free 3
       have c3 := hX.cell 3
       have hO := HQ.out.b1.other ⟨w3.heap.size, 3, none⟩ (.int .i64 r4) hne
       have o0 := hO.cell 0
       have o1 := hO.cell 1
       have o2 := hO.cell 2
       have o3 := hO.cell 3
       have o4 := hO.cell 4
       have f0 := hO.free 0
       have f1 := hO.free 1
       have f2 := hO.free 2
       have f3 := hO.free 3
       have f4 := hO.free 4
       have HO := Hid.mk2 hO
       clear hO hXX hX hF hB))
  have hfb := ((((HO.out.set 0 (.int .i64 id)).set 1 (.int .i64 r1)).set 2 (.int .i64 (1 + 4 * r2))).set 3 (.int .i64 r4)).set 4 (.int .i64 r3)
  have g0 := hfb.cell 0
  have g1 := hfb.cell 1
  have g2 := hfb.cell 2
  have g3 := hfb.cell 3
  have g4 := hfb.cell 4
  have hz3 : w.heap.size ≤ w3.heap.size := by omega
  refine bodyPost_ret (v := .agg #[.int .i64 id, .int .i64 r1, .int .i64 (1 + 4 * r2), .int .i64 r4, .int .i64 r3]) (by simp [results, Tryz.results8, go_sem, g0, g1, g2, g3, g4]) rfl ⟨⟨⟨id, r1, 1 + 4 * r2, r4, r3⟩, by have := HI.out; unfold Bn.Ok; simp only; omega, rfl, rfl⟩, ?_, ?_⟩
  · exact (((((HQ.out.fed.st w3.heap.size 3 _ (by omega)).st w.heap.size 0 _ (by omega)).st w.heap.size 1 _ (by omega)).st w.heap.size 2 _ (by omega)).st w.heap.size 3 _ (by omega)).st w.heap.size 4 _ (by omega)
  · exact (((((HQ.out.bl.st w3.heap.size 3 hz3 _).st w.heap.size 0 (Nat.le_refl _) _).st w.heap.size 1 (Nat.le_refl _) _).st w.heap.size 2 (Nat.le_refl _) _).st w.heap.size 3 (Nat.le_refl _) _).st w.heap.size 4 (Nat.le_refl _) _
structure OutR (w wx : World) : Prop where
  b1 : Blk wx w.heap.size #[.int .i64 0, .int .i64 0, .int .i64 0] 28
  b2 : Blk wx (w.heap.size + 1) #[.int .i64 0, .int .i64 0, .int .i64 0, .int .i64 0, .int .i64 0] 31
  bl : Below w.heap.size w wx
theorem OutR.below {w wx w' : World} (h : OutR w wx) (hb : Below wx.heap.size wx w') : OutR w w' := ⟨h.b1.below hb h.b1.lt, h.b2.below hb h.b2.lt, h.bl.trans (hb.mono h.bl.size)⟩
theorem OutR.but {w wx w' : World} {fb : Nat} (h : OutR w wx) (hb : But fb wx w') (hf : w.heap.size + 1 < fb) : OutR w w' := ⟨h.b1.but hb (by omega), h.b2.but hb (by omega), h.bl.trans (hb.below (by omega) h.bl.size)⟩
end Go.Proofs.YtjjbmbjmdgoofaaGreatDoor
namespace Go.Proofs.YtjjbmbjmdgoofaaGreatDoor
open Go.RowKit
def looseT (t : ByteArray) : ByteArray := ⟨#[40, 32]⟩ ++ t ++ ⟨#[41]⟩
structure FeDuo (w wx : World) (fb : Nat) (c1 c2 : Array Value) : Prop where
  box : Blk wx w.heap.size c1 66
  res : Blk wx (w.heap.size + 1) c2 66
  fed : FeedAt wx fb
  bl : But fb w wx
  lt : fb < w.heap.size
theorem FeDuo.next {w wx w' : World} {fb : Nat} {c1 c2 : Array Value} (h : FeDuo w wx fb c1 c2) (hF : FeedAt w' fb) (hB : But fb wx w') : FeDuo w w' fb c1 c2 :=
  ⟨h.box.but hB (by have := h.lt; omega), h.res.but hB (by have := h.lt; omega), hF, h.bl.trans hB, h.lt⟩
theorem FeedAt.other {w : World} {fb : Nat} (h : FeedAt w fb) (b i : Nat) (v : Value) (hb : b ≠ fb) : FeedAt (w.setCell ⟨b, i, none⟩ v) fb := by
  obtain ⟨s, k, hk, h2, h3⟩ := h.ok
  exact ⟨s, k, hk.other _ _ (by simp only; omega), h2, h3⟩
theorem FeDuo.setB {w wx : World} {fb : Nat} {c1 c2 : Array Value} (h : FeDuo w wx fb c1 c2) (i : Nat) (v : Value) : FeDuo w (wx.setCell ⟨w.heap.size, i, none⟩ v) fb (c1.setIfInBounds i v) c2 :=
  ⟨h.box.set i v, h.res.other _ _ (by simp only; omega), h.fed.other _ _ _ (by have := h.lt; omega), h.bl.st _ _ (Nat.le_refl _) v, h.lt⟩
theorem FeDuo.setO {w wx : World} {fb : Nat} {c1 c2 : Array Value} (h : FeDuo w wx fb c1 c2) (i : Nat) (v : Value) : FeDuo w (wx.setCell ⟨w.heap.size + 1, i, none⟩ v) fb c1 (c2.setIfInBounds i v) :=
  ⟨h.box.other _ _ (by simp only; omega), h.res.set i v, h.fed.other _ _ _ (by have := h.lt; omega), h.bl.st _ _ (by omega) v, h.lt⟩
theorem FeDuo.fin {w wx : World} {fb : Nat} {c1 : Array Value} {z0 z1 z2 z3 z4 z5 : Value} (h : FeDuo w wx fb c1 #[z0, z1, z2, z3, z4, z5]) (a b c d e f : Value) : Blk (finP w wx a b c d e f) (w.heap.size + 1) #[a, b, c, d, e, f] 66 ∧ FeedAt (finP w wx a b c d e f) fb ∧ But fb w (finP w wx a b c d e f) := by
  have g := (((((h.setO 0 a).setO 1 b).setO 2 c).setO 3 d).setO 4 e).setO 5 f
  exact ⟨g.res, g.fed, g.bl⟩
theorem feduo_start {w : World} {fb : Nat} (h : FeedAt w fb) (hlt : fb < w.heap.size) (c1 c2 : Array Value) : FeDuo w ((w.alloc (.cells c1 66)).alloc (.cells c2 66)) fb c1 c2 := by
  have D := duo_startP w c1 c2
  exact ⟨D.box, D.res, h.below D.bl, But.of D.bl, hlt⟩
set_option maxHeartbeats 2000000 in
set_option maxRecDepth 100000 in
theorem loose_any (t : ByteArray) (b : Nat) (k : Wo) (hz : t.size ≤ 1000) (fb : Nat) (w : World) (h : FeedAt w fb) (hlt : fb < w.heap.size) :
    Calls Tryz.prog 53 #[.pointer (some ⟨fb, 0, none⟩), pcV t b k] w fun e w' => (e = .returned (pcV t b k) ∨ e = .returned (pcV (looseT t) 6 k)) ∧ FeedAt w' fb ∧ But fb w w' := by
  obtain ⟨v, flt, steps, fix⟩ := k
  have z1 : (9223372036854775807 < (⟨#[40, 32]⟩ : ByteArray).size + t.size) = False := by
    have : (⟨#[40, 32]⟩ : ByteArray).size = 2 := rfl
    simp; omega
  have z2 : (9223372036854775807 < ((⟨#[40, 32]⟩ : ByteArray) ++ t).size + (⟨#[41]⟩ : ByteArray).size) = False := by
    have : (⟨#[40, 32]⟩ : ByteArray).size = 2 := rfl
    have : (⟨#[41]⟩ : ByteArray).size = 1 := rfl
    rw [ByteArray.size_append]
    simp; omega
  have HD := Hid.mk2 (feduo_start h hlt #[.string t, .int .i64 b, .int .i64 v, .int .i64 flt, .int .i64 steps, .bool fix] #[.string { data := #[] }, .int .i64 0, .int .i64 0, .int .i64 0, .int .i64 0, .bool false])
  clear h hlt
  unfold pcV pcA looseT
  simp only
  go_enter Tryz.func53, Tryz.ntmps53
  go_wp2_with (go_at_call 29; refine (next_any 5 (by omega) _ _ HD.out.fed).mono ?_; rintro e w1 ⟨⟨r, hr0, hr5, rfl⟩, hF, hB⟩; replace HD := Hid.mk2 (HD.out.next hF hB); clear hF hB; have c0 := HD.out.box.cell 0; have o0 := HD.out.res.cell 0; have q0 := HD.out.res.free 0; have c1 := HD.out.box.cell 1; have o1 := HD.out.res.cell 1; have q1 := HD.out.res.free 1; have c2 := HD.out.box.cell 2; have o2 := HD.out.res.cell 2; have q2 := HD.out.res.free 2; have c3 := HD.out.box.cell 3; have o3 := HD.out.res.cell 3; have q3 := HD.out.res.free 3; have c4 := HD.out.box.cell 4; have o4 := HD.out.res.cell 4; have q4 := HD.out.res.free 4; have c5 := HD.out.box.cell 5; have o5 := HD.out.res.cell 5; have q5 := HD.out.res.free 5; have b0 := HD.out.box.free 0; have b1 := HD.out.box.free 1)
  · obtain ⟨hfb, hfe, hbl⟩ := ((HD.out.setB 0 (.string (⟨#[40, 32]⟩ ++ t ++ ⟨#[41]⟩))).setB 1 (.int .i64 6)).fin (.string (⟨#[40, 32]⟩ ++ t ++ ⟨#[41]⟩)) (.int .i64 6) (.int .i64 v) (.int .i64 flt) (.int .i64 steps) (.bool fix)
    have g0 := hfb.cell 0
    have g1 := hfb.cell 1
    have g2 := hfb.cell 2
    have g3 := hfb.cell 3
    have g4 := hfb.cell 4
    have g5 := hfb.cell 5
    unfold finP at g0 g1 g2 g3 g4 g5 hbl hfe
    exact bodyPost_ret (v := .agg #[.string ((⟨#[40, 32]⟩ : ByteArray) ++ t ++ (⟨#[41]⟩ : ByteArray)), .int .i64 6, .int .i64 v, .int .i64 flt, .int .i64 steps, .bool fix]) (by simp [results, Tryz.results53, go_sem, g0, g1, g2, g3, g4, g5]) rfl ⟨.inr rfl, hfe, hbl⟩
  · obtain ⟨hfb, hfe, hbl⟩ := HD.out.fin (.string t) (.int .i64 b) (.int .i64 v) (.int .i64 flt) (.int .i64 steps) (.bool fix)
    have g0 := hfb.cell 0
    have g1 := hfb.cell 1
    have g2 := hfb.cell 2
    have g3 := hfb.cell 3
    have g4 := hfb.cell 4
    have g5 := hfb.cell 5
    unfold finP at g0 g1 g2 g3 g4 g5 hbl hfe
    exact bodyPost_ret (v := .agg #[.string t, .int .i64 b, .int .i64 v, .int .i64 flt, .int .i64 steps, .bool fix]) (by simp [results, Tryz.results53, go_sem, g0, g1, g2, g3, g4, g5]) rfl ⟨.inl rfl, hfe, hbl⟩
end Go.Proofs.YtjjbmbjmdgoofaaGreatDoor
