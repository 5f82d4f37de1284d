/-
  Images of known making: a leaf.
-/
import Derived.Test.YtbdjcffmpbjjlaaDoorKeepH
set_option linter.unusedVariables false
set_option linter.unusedSimpArgs false
namespace Go.Proofs.YtbdjcffmpbjjlaaDoor
open Go.RowKit

/-- The item, the bin and what goes out, beside a feed. -/
structure Quad (w wx : World) (fb : Nat) (x : Itm) (y : Bn) : Prop where
  it : Blk wx w.heap.size #[.int .i64 x.size, .int .i64 x.speed, .int .i64 x.need] 23
  bn : Blk wx (w.heap.size + 1) #[.int .i64 y.id, .int .i64 y.zone, .int .i64 y.cap, .int .i64 y.used, .int .i64 y.has] 25
  rs : Blk wx (w.heap.size + 1 + 1) #[.string { data := #[] }, .int .i64 0, .int .i64 0, .int .i64 0, .int .i64 0] 29
  bl : But fb w wx
  lt : fb < w.heap.size
  fed : FeedAt wx fb
theorem Quad.but {w wx w' : World} {fb : Nat} {x : Itm} {y : Bn} (h : Quad w wx fb x y) (hb : But fb wx w') (hf : FeedAt w' fb) : Quad w w' fb x y :=
  have := h.lt
  ⟨h.it.but hb (by omega), h.bn.but hb (by omega), h.rs.but hb (by omega), h.bl.trans hb, h.lt, hf⟩
theorem Quad.below {w wx w' : World} {fb : Nat} {x : Itm} {y : Bn} (h : Quad w wx fb x y) (hb : Below wx.heap.size wx w') : Quad w w' fb x y := h.but (But.of hb) (h.fed.below hb)
theorem Quad.drew {w wx : World} {fb : Nat} {x : Itm} {y : Bn} (h : Quad w wx fb x y) : Quad w wx.drew fb x y := h.below (below_drewN (Below.refl _ wx) 1)
theorem quad_start (w : World) (fb : Nat) (x : Itm) (y : Bn) (h : FeedAt w fb) : Quad w (((w.alloc (.cells #[.int .i64 x.size, .int .i64 x.speed, .int .i64 x.need] 23)).alloc (.cells #[.int .i64 y.id, .int .i64 y.zone, .int .i64 y.cap, .int .i64 y.used, .int .i64 y.has] 25)).alloc (.cells #[.string { data := #[] }, .int .i64 0, .int .i64 0, .int .i64 0, .int .i64 0] 29)) fb x y := by
  have hb : Below w.heap.size w (((w.alloc (.cells #[.int .i64 x.size, .int .i64 x.speed, .int .i64 x.need] 23)).alloc (.cells #[.int .i64 y.id, .int .i64 y.zone, .int .i64 y.cap, .int .i64 y.used, .int .i64 y.has] 25)).alloc (.cells #[.string { data := #[] }, .int .i64 0, .int .i64 0, .int .i64 0, .int .i64 0] 29)) := (((Below.refl _ _).alloc (Nat.le_refl _) _).alloc (by simp) _).alloc (by simp; omega) _
  obtain ⟨s, k, h1, _⟩ := h.ok
  refine ⟨((Blk.new w _ _).alloc _).alloc _, ?_, ?_, But.of hb, h1.lt, h.below hb⟩
  · have := (Blk.new (w.alloc (.cells #[.int .i64 x.size, .int .i64 x.speed, .int .i64 x.need] 23)) #[.int .i64 y.id, .int .i64 y.zone, .int .i64 y.cap, .int .i64 y.used, .int .i64 y.has] 25).alloc (.cells #[.string { data := #[] }, .int .i64 0, .int .i64 0, .int .i64 0, .int .i64 0] 29)
    simpa using this
  · have := Blk.new ((w.alloc (.cells #[.int .i64 x.size, .int .i64 x.speed, .int .i64 x.need] 23)).alloc (.cells #[.int .i64 y.id, .int .i64 y.zone, .int .i64 y.cap, .int .i64 y.used, .int .i64 y.has] 25)) #[.string { data := #[] }, .int .i64 0, .int .i64 0, .int .i64 0, .int .i64 0] 29
    simpa using this
theorem But.setNew {fb : Nat} {w wx : World} (h : But fb w wx) {p : Addr} (hp : w.heap.size ≤ p.block) (v : Value) : But fb w (wx.setCell p v) :=
  ⟨h.os, h.tape, h.output, by simpa [World.setCell] using h.size, fun k h1 h2 => (Below.heap_setCell _ _ _ _ (by omega)).trans (h.block k h1 h2)⟩
theorem FeedAt.other {w : World} {fb : Nat} (h : FeedAt w fb) (a : Addr) (v : Value) (hne : fb ≠ a.block) : FeedAt (w.setCell a v) fb := by
  obtain ⟨s, k, h1, h2⟩ := h.ok
  exact ⟨s, k, h1.other a v hne, h2⟩
/-- The end: the five cells of what goes out. -/
def finQ (w wx : World) (a b c d e : Value) : World :=
  ((((wx.setCell ⟨w.heap.size + 1 + 1, 0, none⟩ a).setCell ⟨w.heap.size + 1 + 1, 1, none⟩ b).setCell ⟨w.heap.size + 1 + 1, 2, none⟩ c).setCell ⟨w.heap.size + 1 + 1, 3, none⟩ d).setCell ⟨w.heap.size + 1 + 1, 4, none⟩ e
theorem Quad.fin {w wx : World} {fb : Nat} {x : Itm} {y : Bn} (h : Quad w wx fb x y) (a b c d e : Value) : Blk (finQ w wx a b c d e) (w.heap.size + 1 + 1) #[a, b, c, d, e] 29 ∧ FeedAt (finQ w wx a b c d e) fb ∧ But fb w (finQ w wx a b c d e) := by
  have hlt := h.lt
  have o : ∀ i : Nat, fb ≠ (⟨w.heap.size + 1 + 1, i, none⟩ : Addr).block := fun i => by simp only; omega
  have p : ∀ i : Nat, w.heap.size ≤ (⟨w.heap.size + 1 + 1, i, none⟩ : Addr).block := fun i => by simp only; omega
  exact ⟨((((h.rs.set 0 a).set 1 b).set 2 c).set 3 d).set 4 e, ((((h.fed.other _ a (o 0)).other _ b (o 1)).other _ c (o 2)).other _ d (o 3)).other _ e (o 4), ((((h.bl.setNew (p 0) a).setNew (p 1) b).setNew (p 2) c).setNew (p 3) d).setNew (p 4) e⟩
theorem seven_cell (x : Itm) (y : Bn) (k : Nat) (hk : k < 7) : (#[Value.int .i64 x.size, .int .i64 x.speed, .int .i64 x.need, .int .i64 y.zone, .int .i64 y.cap, .int .i64 y.used, .int .i64 y.has] : Array Value)[k]? = some (.int .i64 (attrN k x y)) := by
  obtain rfl | rfl | rfl | rfl | rfl | rfl | rfl : k = 0 ∨ k = 1 ∨ k = 2 ∨ k = 3 ∨ k = 4 ∨ k = 5 ∨ k = 6 := by omega
  all_goals rfl
end Go.Proofs.YtbdjcffmpbjjlaaDoor
