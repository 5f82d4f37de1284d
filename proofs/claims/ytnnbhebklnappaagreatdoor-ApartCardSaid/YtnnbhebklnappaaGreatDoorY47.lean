/-
  An item and a bin out of raw numbers and bytes: item, bin, around.
  Bins out of raw bytes: shelf; are two lists of bins the same.
-/
import Derived.Test.YtnnbhebklnappaaGreatDoorY28
import Derived.Deep.RegionWith
import Derived.Test.YtnnbhebklnappaaGreatDoorY31
set_option linter.unusedVariables false
set_option linter.unusedSimpArgs false
namespace Go.Proofs.YtnnbhebklnappaaGreatDoor
open Go.RowKit

set_option maxHeartbeats 1000000 in
theorem item_any (a b c : Int) (ha : In64 a) (hb : In64 b) (hc : In64 c) (w : World) :
    Calls Tryz.prog 13 #[.int .i64 a, .int .i64 b, .int .i64 c] w fun e w' => (∃ x : Itm, x.Ok ∧ e = .returned (itmA x)) ∧ Below w.heap.size w w' := by
  have HA := Hid.mk2 ha
  have HB := Hid.mk2 hb
  have HC := Hid.mk2 hc
  clear ha hb hc
  go_enter Tryz.func13, Tryz.ntmps13
  go_wp2_with (first
    | (go_at_call_of 24 (Value.int IntKind.i64 1000); refine (pick_any a 1000 HA.out (by omega) _).mono ?_; rintro e _ ⟨⟨r1, h1, k1, rfl⟩, rfl⟩)
    | (go_at_call_of 24 (Value.int IntKind.i64 1001); refine (pick_any b 1001 HB.out (by omega) _).mono ?_; rintro e _ ⟨⟨r2, h2, k2, rfl⟩, rfl⟩)
    | (go_at_call_of 24 (Value.int IntKind.i64 3); refine (pick_any c 3 HC.out (by omega) _).mono ?_; rintro e _ ⟨⟨r3, h3, k3, rfl⟩, rfl⟩))
  refine bodyPost_ret (v := .agg #[.int .i64 (1 + r1), .int .i64 r2, .int .i64 r3]) (by simp [results, Tryz.results13, go_sem]) rfl ⟨⟨⟨1 + r1, r2, r3⟩, by unfold Itm.Ok; simp only; omega, rfl⟩, ?_⟩
  exact box3 w _
/-- What goes out beside a feed. -/
structure OutB (w wx : World) (fb : Nat) (k : Nat) (c1 c2 : Array Value) : Prop where
  b1 : Blk wx w.heap.size c1 25
  b2 : k = 1 ∨ Blk wx (w.heap.size + 1) c2 25
  bl : But fb w wx
  lt : fb < w.heap.size
  fed : FeedAt wx fb
theorem OutB.but {w wx w' : World} {fb k : Nat} {c1 c2 : Array Value} (h : OutB w wx fb k c1 c2) (hb : But fb wx w') (hf : FeedAt w' fb) : OutB w w' fb k c1 c2 :=
  have := h.lt
  ⟨h.b1.but hb (by omega), h.b2.imp id (fun h => h.but hb (by omega)), h.bl.trans hb, h.lt, hf⟩
theorem But.al {fb : Nat} {w wx : World} (h : But fb w wx) (o : Obj) : But fb w (wx.alloc o) := h.trans (But.of (box3 wx o))
theorem But.st {fb : Nat} {w wx : World} (h : But fb w wx) (b i : Nat) (hb : w.heap.size ≤ b) (v : Value) : But fb w (wx.setCell ⟨b, i, none⟩ v) :=
  ⟨h.os, h.tape, h.output, by simpa [World.setCell] using h.size, fun k h1 h2 => (Below.heap_setCell _ _ _ _ (by simp only; omega)).trans (h.block k h1 h2)⟩
theorem FeedAt.st {w : World} {fb : Nat} (h : FeedAt w fb) (b i : Nat) (v : Value) (hne : fb ≠ b) : FeedAt (w.setCell ⟨b, i, none⟩ v) fb := by
  obtain ⟨s, k, h1, h2⟩ := h.ok
  exact ⟨s, k, h1.other ⟨b, i, none⟩ v hne, h2⟩
theorem FeedAt.al {w : World} {fb : Nat} (h : FeedAt w fb) (o : Obj) : FeedAt (w.alloc o) fb := h.below (box3 w o)
theorem FeedAt.lt {w : World} {fb : Nat} (h : FeedAt w fb) : fb < w.heap.size := by
  obtain ⟨s, k, h1, _⟩ := h.ok
  exact h1.lt
set_option maxHeartbeats 2000000 in
set_option maxRecDepth 100000 in
theorem bin_any (id : Int) (hid : 0 ≤ id ∧ id ≤ 1000) (fb : Nat) (w : World) (h : FeedAt w fb) :
    Calls Tryz.prog 27 #[.int .i64 id, .pointer (some ⟨fb, 0, none⟩)] w fun e w' => (∃ y : Bn, y.Ok ∧ y.id = id ∧ e = .returned (bnA y)) ∧ FeedAt w' fb ∧ But fb w w' := by
  have hlt := h.lt
  have HQ : Hid (OutB w (w.alloc (.cells #[.int .i64 0, .int .i64 0, .int .i64 0, .int .i64 0, .int .i64 0] 25)) fb 1 #[.int .i64 0, .int .i64 0, .int .i64 0, .int .i64 0, .int .i64 0] #[]) := ⟨Blk.new w _ _, .inl rfl, (But.refl fb w).al _, hlt, h.al _⟩
  have HI := Hid.mk2 hid
  clear h hid
  go_enter Tryz.func27, Tryz.ntmps27
  go_wp2_with (first
    | (go_at_call_of 29 (Value.int IntKind.i64 10); refine (next_any 10 (by omega) fb _ HQ.out.fed).mono ?_; rintro e w1 ⟨⟨r1, h1, k1, rfl⟩, hF, hB⟩; replace HQ := Hid.mk2 (HQ.out.but hB hF); clear hF hB)
    | (go_at_call_of 29 (Value.int IntKind.i64 250); refine (next_any 250 (by omega) fb _ HQ.out.fed).mono ?_; rintro e w2 ⟨⟨r2, h2, k2, rfl⟩, hF, hB⟩; replace HQ := Hid.mk2 (HQ.out.but hB hF); clear hF hB)
    | (go_at_call_of 29 (Value.int IntKind.i64 3); refine (next_any 3 (by omega) fb _ HQ.out.fed).mono ?_; rintro e w3 ⟨⟨r3, h3, k3, rfl⟩, hF, hB⟩; replace HQ := Hid.mk2 (HQ.out.but hB hF); clear hF hB)
    | (go_at_call 29; refine (next_any (1 + 4 * r2 + 1) (by omega) fb _ (HQ.out.fed.al _)).mono ?_; rintro e w4 ⟨⟨r4, h4, k4, rfl⟩, hF, hB⟩
       have hlt3 : fb < w3.heap.size := HQ.out.fed.lt
       have hX := (Blk.new w3 #[.int .i64 id, .int .i64 r1, .int .i64 (1 + 4 * r2), .int .i64 0, .int .i64 r3] 25).but hB (by omega)
       have hz3' : w.heap.size < w3.heap.size := HQ.out.b1.lt
       have hne : w.heap.size ≠ w3.heap.size := by omega
       replace HQ := Hid.mk2 ((HQ.out.but (But.of (box3 w3 (.cells #[.int .i64 id, .int .i64 r1, .int .i64 (1 + 4 * r2), .int .i64 0, .int .i64 r3] 25))) (HQ.out.fed.al _)).but hB hF)
       have hXX := hX.set 3 (.int .i64 r4)
       have x0 := hXX.cell 0
       have x1 := hXX.cell 1
       have x2 := hXX.cell 2
       have x3 := hXX.cell 3
       have x4 := hXX.cell 4
       have fx := hX.free 3
       have c3 := hX.cell 3
       have hO := HQ.out.b1.other ⟨w3.heap.size, 3, none⟩ (.int .i64 r4) hne
       have o0 := hO.cell 0
       have o1 := hO.cell 1
       have o2 := hO.cell 2
       have o3 := hO.cell 3
       have o4 := hO.cell 4
       have f0 := hO.free 0
       have f1 := hO.free 1
       have f2 := hO.free 2
       have f3 := hO.free 3
       have f4 := hO.free 4
       have HO := Hid.mk2 hO
       clear hO hXX hX hF hB))
  have hfb := ((((HO.out.set 0 (.int .i64 id)).set 1 (.int .i64 r1)).set 2 (.int .i64 (1 + 4 * r2))).set 3 (.int .i64 r4)).set 4 (.int .i64 r3)
  have g0 := hfb.cell 0
  have g1 := hfb.cell 1
  have g2 := hfb.cell 2
  have g3 := hfb.cell 3
  have g4 := hfb.cell 4
  have hz3 : w.heap.size ≤ w3.heap.size := by omega
  refine bodyPost_ret (v := .agg #[.int .i64 id, .int .i64 r1, .int .i64 (1 + 4 * r2), .int .i64 r4, .int .i64 r3]) (by simp [results, Tryz.results27, go_sem, g0, g1, g2, g3, g4]) rfl ⟨⟨⟨id, r1, 1 + 4 * r2, r4, r3⟩, by have := HI.out; unfold Bn.Ok; simp only; omega, rfl, rfl⟩, ?_, ?_⟩
  · exact (((((HQ.out.fed.st w3.heap.size 3 _ (by omega)).st w.heap.size 0 _ (by omega)).st w.heap.size 1 _ (by omega)).st w.heap.size 2 _ (by omega)).st w.heap.size 3 _ (by omega)).st w.heap.size 4 _ (by omega)
  · exact (((((HQ.out.bl.st w3.heap.size 3 hz3 _).st w.heap.size 0 (Nat.le_refl _) _).st w.heap.size 1 (Nat.le_refl _) _).st w.heap.size 2 (Nat.le_refl _) _).st w.heap.size 3 (Nat.le_refl _) _).st w.heap.size 4 (Nat.le_refl _) _
theorem feed_at (w : World) (o : Obj) (s : ByteArray) (hs : s.size ≤ maxLen) : FeedAt ((w.alloc o).alloc (.cells #[.string s, .int .i64 0] 31)) (w.heap.size + 1) := by
  have := Blk.new (w.alloc o) #[.string s, .int .i64 0] 31
  exact ⟨s, 0, by simpa using this, Nat.zero_le _, hs⟩
structure OutR (w wx : World) : Prop where
  b1 : Blk wx w.heap.size #[.int .i64 0, .int .i64 0, .int .i64 0] 23
  b2 : Blk wx (w.heap.size + 1) #[.int .i64 0, .int .i64 0, .int .i64 0, .int .i64 0, .int .i64 0] 25
  bl : Below w.heap.size w wx
theorem OutR.below {w wx w' : World} (h : OutR w wx) (hb : Below wx.heap.size wx w') : OutR w w' := ⟨h.b1.below hb h.b1.lt, h.b2.below hb h.b2.lt, h.bl.trans (hb.mono h.bl.size)⟩
theorem OutR.al {w wx : World} (h : OutR w wx) (o : Obj) : OutR w (wx.alloc o) := h.below (box3 wx o)
theorem OutR.but {w wx w' : World} {fb : Nat} (h : OutR w wx) (hb : But fb wx w') (hf : w.heap.size + 1 < fb) : OutR w w' := ⟨h.b1.but hb (by omega), h.b2.but hb (by omega), h.bl.trans (hb.below (by omega) h.bl.size)⟩
theorem outR_start (w : World) : OutR w ((w.alloc (.cells #[.int .i64 0, .int .i64 0, .int .i64 0] 23)).alloc (.cells #[.int .i64 0, .int .i64 0, .int .i64 0, .int .i64 0, .int .i64 0] 25)) := by
  refine ⟨(Blk.new w _ _).alloc _, ?_, (box3 w _).trans ((box3 _ _).mono (by simp))⟩
  have := Blk.new (w.alloc (.cells #[.int .i64 0, .int .i64 0, .int .i64 0] 23)) #[.int .i64 0, .int .i64 0, .int .i64 0, .int .i64 0, .int .i64 0] 25
  simpa using this
set_option maxHeartbeats 2000000 in
set_option maxRecDepth 100000 in
theorem around_any (a b c : Int) (ha : In64 a) (hb : In64 b) (hc : In64 c) (s : ByteArray) (hs : s.size ≤ maxLen) (w : World) :
    Calls Tryz.prog 6 #[.int .i64 a, .int .i64 b, .int .i64 c, .string s] w fun e w' => (∃ (x : Itm) (y : Bn), x.Ok ∧ y.Ok ∧ e = .returned (.tuple #[itmA x, bnA y])) ∧ Below w.heap.size w w' := by
  have HA := Hid.mk2 ha
  have HB := Hid.mk2 hb
  have HC := Hid.mk2 hc
  have HS := Hid.mk2 hs
  have HR := Hid.mk2 (outR_start w)
  clear ha hb hc hs
  go_enter Tryz.func6, Tryz.ntmps6
  go_wp2_with (first
    | (go_at_call 13; refine (item_any a b c HA.out HB.out HC.out _).mono ?_; rintro e w1 ⟨⟨x, hx, rfl⟩, hb1⟩; unfold itmA; replace HR := Hid.mk2 (HR.out.below hb1); have hl1 := HR.out.b2.lt; have hI := Blk.new w1 #[.int .i64 x.size, .int .i64 x.speed, .int .i64 x.need] 23; clear hb1)
    | (go_at_call 24; refine (pick_any a 1001 HA.out (by omega) _).mono ?_; rintro e _ ⟨⟨r, hr0, hr1, rfl⟩, rfl⟩)
    | (go_at_call 27; refine (bin_any r (by omega) _ _ (feed_at w1 _ s HS.out)).mono ?_; rintro e w2 ⟨⟨y, hy, hid, rfl⟩, hF, hB2⟩; clear hid; unfold bnA; replace HR := Hid.mk2 ((((HR.out.al _).al _).but hB2 (by omega)).al (.cells #[.int .i64 y.id, .int .i64 y.zone, .int .i64 y.cap, .int .i64 y.used, .int .i64 y.has] 25)); replace hI := ((hI.alloc _).but hB2 (by omega)).alloc (.cells #[.int .i64 y.id, .int .i64 y.zone, .int .i64 y.cap, .int .i64 y.used, .int .i64 y.has] 25); have hl2 : w1.heap.size + 1 < w2.heap.size := hF.lt; clear hF hB2))
  have HX := Hid.mk2 hx
  have HY := Hid.mk2 hy
  clear hx hy
  have i0 := hI.cell 0
  have i1 := hI.cell 1
  have i2 := hI.cell 2
  have f0 := HR.out.b1.free 0
  have f1 := HR.out.b1.free 1
  have f2 := HR.out.b1.free 2
  have p0 := HR.out.b2.free 0
  have p1 := HR.out.b2.free 1
  have p2 := HR.out.b2.free 2
  have p3 := HR.out.b2.free 3
  have p4 := HR.out.b2.free 4
  have q0 := HR.out.b1.cell 0
  have q1 := HR.out.b1.cell 1
  have q2 := HR.out.b1.cell 2
  have s0 := HR.out.b2.cell 0
  have s1 := HR.out.b2.cell 1
  have s2 := HR.out.b2.cell 2
  have s3 := HR.out.b2.cell 3
  have s4 := HR.out.b2.cell 4
  go_region
  have hf1 := (((((((((HR.out.b1).set 0 (.int .i64 x.size)).set 1 (.int .i64 x.speed)).set 2 (.int .i64 x.need)).other ⟨w.heap.size + 1, 0, none⟩ (.int .i64 y.id) (by simp only; omega)).other ⟨w.heap.size + 1, 1, none⟩ (.int .i64 y.zone) (by simp only; omega)).other ⟨w.heap.size + 1, 2, none⟩ (.int .i64 y.cap) (by simp only; omega)).other ⟨w.heap.size + 1, 3, none⟩ (.int .i64 y.used) (by simp only; omega)).other ⟨w.heap.size + 1, 4, none⟩ (.int .i64 y.has) (by simp only; omega)).drew
  have hf2 := (((((((((HR.out.b2).other ⟨w.heap.size, 0, none⟩ (.int .i64 x.size) (by simp only; omega)).other ⟨w.heap.size, 1, none⟩ (.int .i64 x.speed) (by simp only; omega)).other ⟨w.heap.size, 2, none⟩ (.int .i64 x.need) (by simp only; omega)).set 0 (.int .i64 y.id)).set 1 (.int .i64 y.zone)).set 2 (.int .i64 y.cap)).set 3 (.int .i64 y.used)).set 4 (.int .i64 y.has)).drew
  have a0 := hf1.cell 0
  have a1 := hf1.cell 1
  have a2 := hf1.cell 2
  have b0 := hf2.cell 0
  have b1 := hf2.cell 1
  have b2 := hf2.cell 2
  have b3 := hf2.cell 3
  have b4 := hf2.cell 4
  have HF := Hid.mk2 ((((((((((HR.out.bl).setCell (p := ⟨w.heap.size, 0, none⟩) (by simp only; omega) (.int .i64 x.size)).setCell (p := ⟨w.heap.size, 1, none⟩) (by simp only; omega) (.int .i64 x.speed)).setCell (p := ⟨w.heap.size, 2, none⟩) (by simp only; omega) (.int .i64 x.need)).setCell (p := ⟨w.heap.size + 1, 0, none⟩) (by simp only; omega) (.int .i64 y.id)).setCell (p := ⟨w.heap.size + 1, 1, none⟩) (by simp only; omega) (.int .i64 y.zone)).setCell (p := ⟨w.heap.size + 1, 2, none⟩) (by simp only; omega) (.int .i64 y.cap)).setCell (p := ⟨w.heap.size + 1, 3, none⟩) (by simp only; omega) (.int .i64 y.used)).setCell (p := ⟨w.heap.size + 1, 4, none⟩) (by simp only; omega) (.int .i64 y.has)).drew)
  clear hf1 hf2
  go_wp2
  refine bodyPost_ret (v := .tuple #[.agg #[.int .i64 x.size, .int .i64 x.speed, .int .i64 x.need], .agg #[.int .i64 y.id, .int .i64 y.zone, .int .i64 y.cap, .int .i64 y.used, .int .i64 y.has]]) (by simp [results, Tryz.results6, go_sem, a0, a1, a2, b0, b1, b2, b3, b4]) rfl ⟨⟨x, y, HX.out, HY.out, rfl⟩, HF.out⟩
end Go.Proofs.YtnnbhebklnappaaGreatDoor

set_option linter.unusedVariables false
set_option linter.unusedSimpArgs false
namespace Go.Proofs.YtnnbhebklnappaaGreatDoor
open Go.RowKit

theorem cell_five_at (w : World) (x y z t u : Value) (e : TypeId) (b : Nat) (hb : b = w.heap.size) : ∀ j v, [x, y, z, t, u][j]? = some v → (w.alloc (.cells #[x, y, z, t, u] e)).cell? ((⟨b, 0, none⟩ : Addr).add j) = some v := by
  subst hb
  exact cell_five w x y z t u e
theorem own_step2 {w wr w2 : World} {base : Nat} {acc : List Bn} {v v' : Value} {b : Bn} {e : TypeId} {o : Obj} (hB : w.heap.size ≤ base) (hbel : Below w.heap.size w wr)
    (hown2 : w2.ownsRow base e 5 v' (acc.length + 1) (cellsB acc ++ [.int .i64 b.id, .int .i64 b.zone, .int .i64 b.cap, .int .i64 b.used, .int .i64 b.has])) (hg : (wr.alloc o).grownBy w2 v.ownBlock) (hown1 : wr.ownsRow base e 5 v acc.length (cellsB acc)) :
    w2.ownsRow base e 5 v' (acc ++ [b]).length (cellsB (acc ++ [b])) ∧ Below w.heap.size w w2 := by
  have hs1 := hbel.size
  refine ⟨?_, ?_⟩
  · rw [cellsB_snoc]
    simp only [cellB, List.length_append, List.length_cons, List.length_nil]
    exact hown2
  · exact (hbel.alloc (by omega) o).grown hg (by simp; omega) (fun k hk => by have := (hown1.lt k hk).1; omega)
theorem FeedAt.grown {w w' : World} {fb : Nat} {row : Option Nat} (h : FeedAt w fb) (hg : w.grownBy w' row) (hne : some fb ≠ row) : FeedAt w' fb := by
  obtain ⟨s, k, h1, h2⟩ := h.ok
  refine ⟨s, k, ?_, h2⟩
  unfold Blk; rw [hg.block fb h1.lt hne]; exact h1
theorem feed_new (w : World) (s : ByteArray) (hs : s.size ≤ maxLen) : FeedAt (w.alloc (.cells #[.string s, .int .i64 0] 31)) w.heap.size := ⟨s, 0, Blk.new w _ _, Nat.zero_le _, hs⟩
/-- So far made. -/
structure Made (w wr : World) (v : Value) (id : Int) (l : List Bn) : Prop where
  up : Shelf l
  lt : ∀ x ∈ l, x.id < id
  own : wr.ownsRow (w.heap.size + 1) 25 5 v l.length (cellsB l)
  fed : FeedAt wr w.heap.size
  bl : Below w.heap.size w wr
theorem Made.but {w wr w' : World} {v : Value} {id : Int} {l : List Bn} (h : Made w wr v id l) (hb : But w.heap.size wr w') (hf : FeedAt w' w.heap.size) : Made w w' v id l := by
  refine ⟨h.up, h.lt, own_but h.own hb fun k hk => ?_, hf, h.bl.trans (hb.below (Nat.le_refl _) h.bl.size)⟩
  have := (h.own.lt k hk).1
  omega
theorem Made.al {w wr : World} {v : Value} {id : Int} {l : List Bn} (h : Made w wr v id l) (o : Obj) : Made w (wr.alloc o) v id l := h.but (But.of (box3 wr o)) (h.fed.al o)
theorem Made.more {w wr : World} {v : Value} {id id' : Int} {l : List Bn} (h : Made w wr v id l) (hi : id ≤ id') : Made w wr v id' l := ⟨h.up, fun x hx => by have := h.lt x hx; omega, h.own, h.fed, h.bl⟩
theorem Made.snoc {w wr w2 : World} {v v' : Value} {id : Int} {l : List Bn} {y : Bn} {o : Obj} (h : Made w wr v id l) (hy : y.Ok) (hid : y.id = id)
    (hown2 : w2.ownsRow (w.heap.size + 1) 25 5 v' (l.length + 1) (cellsB l ++ [.int .i64 y.id, .int .i64 y.zone, .int .i64 y.cap, .int .i64 y.used, .int .i64 y.has])) (hg : (wr.alloc o).grownBy w2 v.ownBlock) : Made w w2 v' (id + 1) (l ++ [y]) := by
  obtain ⟨h1, h2⟩ := own_step2 (by omega) h.bl hown2 hg h.own
  refine ⟨h.up.snoc y (fun x hx => by rw [hid]; exact h.lt x hx) hy, fun x hx => ?_, h1, (h.fed.al o).grown hg ?_, h2⟩
  · rcases List.mem_append.1 hx with h3 | h3
    · have := h.lt x h3; omega
    · simp at h3; subst h3; omega
  · intro he
    have := (h.own.lt w.heap.size he.symm).1
    omega
set_option maxHeartbeats 2000000 in
set_option maxRecDepth 100000 in
theorem shelf_any (s : ByteArray) (hs : s.size ≤ maxLen) (w : World) :
    Calls Tryz.prog 11 #[.string s] w fun e w' => Below w.heap.size w w' ∧ ∃ l a c, Shelf l ∧ 1 ≤ l.length ∧ l.length ≤ 12 ∧ e = .returned (.slice a l.length c) ∧ w'.ownsRow w.heap.size 25 5 (.slice a l.length c) l.length (cellsB l) := by
  obtain ⟨i0, hi0, hz0, hz1, hz2⟩ := info_parts Tryz.infoBin
  have HM : Hid (Made w (w.alloc (.cells #[.string s, .int .i64 0] 31)) (.slice none 0 0) 0 []) := ⟨Shelf.nil, by simp, World.ownsRow_nil _ _ _ _, feed_new w s hs, box3 w _⟩
  clear hs
  go_enter Tryz.func11, Tryz.ntmps11
  go_wp2_with (first
    | (go_at_call_of 29 (Value.int IntKind.i64 12); refine (next_any 12 (by omega) _ _ HM.out.fed).mono ?_; rintro e w1 ⟨⟨r1, h1, k1, rfl⟩, hF, hB⟩; replace HM := Hid.mk2 (HM.out.but hB hF); clear hF hB)
    | (go_at_call_of 29 (Value.int IntKind.i64 50); refine (next_any 50 (by omega) _ _ HM.out.fed).mono ?_; rintro e w2 ⟨⟨r2, h2, k2, rfl⟩, hF, hB⟩; replace HM := Hid.mk2 (HM.out.but hB hF); clear hF hB))
  obtain ⟨n, hn⟩ : ∃ n : Nat, (n : Int) = 1 + r1 := ⟨(1 + r1).toNat, by omega⟩
  have hn1 : 1 ≤ n ∧ n ≤ 12 := by omega
  rw [← hn]
  clear hn h1 k1
  go_loopw [5, 6, 7] (fun v vid vi wr => ∃ (i : Nat) (id : Int) (l : List Bn), i ≤ n ∧ vi = .int .i64 i ∧ l.length = i ∧ vid = .int .i64 id ∧ 0 ≤ id ∧ id ≤ 50 + 41 * i ∧ Made w wr v id l) (fun _ _ i _ => n - (intOf i).toNat)
  case atStart => exact ⟨0, r2, [], Nat.zero_le _, rfl, rfl, rfl, h2, by omega, HM.out.more h2⟩
  case round =>
    obtain ⟨i, id, l, hi, rfl, hl, rfl, hid0, hid1, hm⟩ := hrel
    have HQ := Hid.mk2 hm
    have HL := Hid.mk2 hl
    have hl12 : l.length ≤ 12 := by omega
    clear hm hl HM
    by_cases hlt : i < n
    · have hd : decide ((i : Int) < (n : Int)) = true := by simp; omega
      go_wp2_with (first
        | (go_at_call 27; refine (bin_any id (by omega) _ _ HQ.out.fed).mono ?_; rintro e w3 ⟨⟨y, hy, hyid, rfl⟩, hF, hB⟩; unfold bnA; replace HQ := Hid.mk2 ((HQ.out.but hB hF).al (.cells #[.int .i64 y.id, .int .i64 y.zone, .int .i64 y.cap, .int .i64 y.used, .int .i64 y.has] 25)); have HY := Hid.mk2 hy; have HYI := Hid.mk2 hyid; have hsz3 : w.heap.size < w3.heap.size := hF.lt; clear hF hB hy hyid)
        | (at_builtin; refine wpList_append_own _ rfl (.tmp 25) (.tmp 27) 45 rfl (w.heap.size + 1) 25 i0 (.agg #[.int .i64 0, .int .i64 0, .int .i64 0, .int .i64 0, .int .i64 0]) 5 40 Tryz.underlying45 hi0 hz0 hz1 hz2 rfl (by decide) _ _ _ rfl (HQ.out.own.alloc _) ⟨w3.heap.size + 1, 0, none⟩ 1 1 [.int .i64 y.id, .int .i64 y.zone, .int .i64 y.cap, .int .i64 y.used, .int .i64 y.has] rfl rfl (cell_five_at _ _ _ _ _ _ _ _ (by simp)) (one_bin y) (by unfold maxLen; omega) (by omega) (by simp; omega) ?_; intro v' w4 hown2 hgrow2 _; replace HQ := Hid.mk2 (HQ.out.snoc HY.out HYI.out hown2 hgrow2); clear hown2 hgrow2)
        | (go_at_call 29; refine (next_any 40 (by omega) _ _ HQ.out.fed).mono ?_; rintro e w5 ⟨⟨r5, h5, k5, rfl⟩, hF, hB⟩; replace HQ := Hid.mk2 (HQ.out.but hB hF); clear hF hB))
      go_roundw
      case rel => exact ⟨i + 1, id + 1 + r5, l ++ [y], by omega, by go_num, by simp [HL.out], by go_num, by omega, by omega, HQ.out.more (by omega)⟩
      case measure => simp [intOf]; omega
    · have hd : decide ((i : Int) < (n : Int)) = false := by simp; omega
      have ho := HQ.out.own
      obtain ⟨a, c, hv⟩ := (reads_of_own ho).shape
      have hin : i = n := by omega
      go_wp2
      go_ret
      refine ⟨HQ.out.bl, l, a, c, HQ.out.up, by have := HL.out; omega, hl12, by rw [hv] <;> rfl, ?_⟩
      rw [hv] at ho
      exact own_low ho (by omega)
set_option maxHeartbeats 2000000 in
theorem sameBins_any (l : List Bn) (va vb : Value) (w : World) (ha : Reads w va l.length (cellsB l)) (hb : Reads w vb l.length (cellsB l)) (hl : l.length ≤ 100) :
    Calls Tryz.prog 22 #[va, vb] w fun e w' => e = .returned (.bool true) ∧ Below w.heap.size w w' := by
  obtain ⟨a, c, rfl⟩ := ha.shape
  obtain ⟨a2, c2, rfl⟩ := hb.shape
  have HA := Hid.mk2 ha
  have HB := Hid.mk2 hb
  clear ha hb
  go_enter Tryz.func22, Tryz.ntmps22
  go_wp2
  go_loopw [5] (fun vi wr => ∃ i : Nat, i ≤ l.length ∧ vi = .int .i64 i ∧ Below w.heap.size w wr) (fun i _ => l.length - (intOf i).toNat)
  case atStart => exact ⟨0, Nat.zero_le _, rfl, Below.refl _ _⟩
  case round =>
    obtain ⟨i, hi, rfl, hbel⟩ := hrel
    by_cases hlt : i < l.length
    · obtain ⟨g, o, cap, hcut, hcap, hg, hc⟩ := HA.out.pos (by omega)
      cases hcut
      obtain ⟨g2, o2, cap2, hcut2, hcap2, hg2, hc2⟩ := HB.out.pos (by omega)
      cases hcut2
      obtain ⟨c0, c1, c2, c3, c4⟩ := bin_cells hc i hlt
      have e0 := (hbel.cell (p := ⟨g, o + i * 5, none⟩) hg).trans c0
      have e1 := (hbel.cell (p := ⟨g, o + i * 5 + 1, none⟩) hg).trans c1
      have e2 := (hbel.cell (p := ⟨g, o + i * 5 + 2, none⟩) hg).trans c2
      have e3 := (hbel.cell (p := ⟨g, o + i * 5 + 3, none⟩) hg).trans c3
      have e4 := (hbel.cell (p := ⟨g, o + i * 5 + 4, none⟩) hg).trans c4
      obtain ⟨c5, c6, c7, c8, c9⟩ := bin_cells hc2 i hlt
      have e5 := (hbel.cell (p := ⟨g2, o2 + i * 5, none⟩) hg2).trans c5
      have e6 := (hbel.cell (p := ⟨g2, o2 + i * 5 + 1, none⟩) hg2).trans c6
      have e7 := (hbel.cell (p := ⟨g2, o2 + i * 5 + 2, none⟩) hg2).trans c7
      have e8 := (hbel.cell (p := ⟨g2, o2 + i * 5 + 3, none⟩) hg2).trans c8
      have e9 := (hbel.cell (p := ⟨g2, o2 + i * 5 + 4, none⟩) hg2).trans c9
      generalize hx : l[i] = x at *
      clear hc hc2 c0 c1 c2 c3 c4 c5 c6 c7 c8 c9 hx
      go_wp2
      go_quiet (fail)
      go_wp2
      go_roundw
      case rel => exact ⟨i + 1, by omega, by go_num, below_drewN hbel _⟩
      case measure => simp [intOf]; omega
    · go_wp2
      go_ret
      exact ⟨rfl, hbel⟩
end Go.Proofs.YtnnbhebklnappaaGreatDoor
