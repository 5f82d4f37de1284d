/-
  Apart: what lies in memory while it runs.
-/
import Derived.Test.YtnnbhebklnappaaGreatDoorY50
set_option linter.unusedVariables false
set_option linter.unusedSimpArgs false
namespace Go.Proofs.YtnnbhebklnappaaGreatDoor
open Go.RowKit Go.Deep

structure AP (wB wx : World) (gm c N s2 xb bb kb : Nat) (L L' : List Bn) (im : ByteArray) (x : Itm) (bv : Value) (bk : List Plc) : Prop where
  km : KM wB wx gm c N s2 L L' im
  it : Blk wx xb #[.int .i64 x.size, .int .i64 x.speed, .int .i64 x.need] 23
  be : Blk wx bb #[.int .i64 0, .int .i64 0, .int .i64 0, bv] 53
  ke : Blk wx kb (cellsQ bk).toArray 70
  n1 : s2 < xb
  n2 : s2 < bb
  n3 : s2 < kb
section
variable {wB wx w' : World} {gm c N s2 xb bb kb : Nat} {L L' L2 : List Bn} {im : ByteArray} {x : Itm} {bv : Value} {bk : List Plc}
theorem AP.below (h : AP wB wx gm c N s2 xb bb kb L L' im x bv bk) (hb : Below wx.heap.size wx w') : AP wB w' gm c N s2 xb bb kb L L' im x bv bk :=
  ⟨h.km.below hb, h.it.below hb h.it.lt, h.be.below hb h.be.lt, h.ke.below hb h.ke.lt, h.n1, h.n2, h.n3⟩
theorem AP.al (h : AP wB wx gm c N s2 xb bb kb L L' im x bv bk) (o : Obj) : AP wB (wx.alloc o) gm c N s2 xb bb kb L L' im x bv bk := h.below (box3 wx o)
theorem AP.dr (h : AP wB wx gm c N s2 xb bb kb L L' im x bv bk) : AP wB wx.drew gm c N s2 xb bb kb L L' im x bv bk := h.below (below_drewN (Below.refl _ wx) 1)
theorem AP.but (h : AP wB wx gm c N s2 xb bb kb L L' im x bv bk) (hb : But s2 wx w') (hs : StoreAt w' s2 L2 im) (hg : gm < s2) (hw : wB.heap.size ≤ gm) : AP wB w' gm c N s2 xb bb kb L L2 im x bv bk := by
  have h1 := h.n1
  have h2 := h.n2
  have h3 := h.n3
  exact ⟨h.km.but hb hs hg hw, h.it.but hb (by omega), h.be.but hb (by omega), h.ke.but hb (by omega), h1, h2, h3⟩
theorem AP.oth5 (h : AP wB wx gm c N s2 xb bb kb L L' im x bv bk) (b : Nat) (v0 v1 v2 v3 v4 : Value) (hb : b ≠ gm) (hb2 : s2 ≠ b) (hw : wB.heap.size ≤ b) (hoff : ∀ v im, Blk wx s2 #[v, .string im] 95 → ∀ k, v.ownBlock = some k → k ≠ b) (e1 : xb ≠ b) (e2 : bb ≠ b) (e3 : kb ≠ b) :
    AP wB (((((wx.setCell ⟨b, 0, none⟩ v0).setCell ⟨b, 1, none⟩ v1).setCell ⟨b, 2, none⟩ v2).setCell ⟨b, 3, none⟩ v3).setCell ⟨b, 4, none⟩ v4) gm c N s2 xb bb kb L L' im x bv bk :=
  ⟨h.km.oth5 b v0 v1 v2 v3 v4 hb hb2 hw hoff, ((((h.it.other _ _ e1).other _ _ e1).other _ _ e1).other _ _ e1).other _ _ e1, ((((h.be.other _ _ e2).other _ _ e2).other _ _ e2).other _ _ e2).other _ _ e2, ((((h.ke.other _ _ e3).other _ _ e3).other _ _ e3).other _ _ e3).other _ _ e3, h.n1, h.n2, h.n3⟩
theorem AP.own5 (h : AP wB wx gm c N s2 xb bb kb L L' im x bv bk) (i : Nat) (hi : i < L.length) (b : Bn) (hg : gm < s2) (hw : wB.heap.size ≤ gm) :
    AP wB (((((wx.setCell ⟨gm, i * 5, none⟩ (.int .i64 b.id)).setCell ⟨gm, i * 5 + 1, none⟩ (.int .i64 b.zone)).setCell ⟨gm, i * 5 + 2, none⟩ (.int .i64 b.cap)).setCell ⟨gm, i * 5 + 3, none⟩ (.int .i64 b.used)).setCell ⟨gm, i * 5 + 4, none⟩ (.int .i64 b.has)) gm c N s2 xb bb kb (L.set i b) L' im x bv bk := by
  have h1 := h.n1
  have h2 := h.n2
  have h3 := h.n3
  have e1 : xb ≠ gm := by omega
  have e2 : bb ≠ gm := by omega
  have e3 : kb ≠ gm := by omega
  exact ⟨h.km.own5 i hi b hg hw, ((((h.it.other _ _ e1).other _ _ e1).other _ _ e1).other _ _ e1).other _ _ e1, ((((h.be.other _ _ e2).other _ _ e2).other _ _ e2).other _ _ e2).other _ _ e2, ((((h.ke.other _ _ e3).other _ _ e3).other _ _ e3).other _ _ e3).other _ _ e3, h1, h2, h3⟩
theorem AP.keep (h : AP wB wx gm c N s2 xb bb kb L L' im x bv bk) : Reads wx (.slice (some ⟨kb, 0, none⟩) bk.length bk.length) bk.length (cellsQ bk) := by
  refine .inr ⟨kb, 0, bk.length, rfl, Nat.le_refl _, h.ke.lt, fun j u hj => ?_⟩
  rw [Nat.zero_add, h.ke.cell]
  simpa using hj
end
theorem own_block {w : World} {base : Nat} {e : TypeId} {s n : Nat} {v : Value} {xs : List Value} (h : w.ownsRow base e s v n xs) (hn : 0 < n) : ∃ g cap cur, v = .slice (some ⟨g, 0, none⟩) n cap ∧ base ≤ g ∧ n ≤ cap ∧ Blk w g cur e ∧ cur.size = cap * s := by
  rcases h.2 with ⟨_, h0⟩ | ⟨g, cap, cur, hv, hbg, hh, hnc, hm, hs, ht⟩
  · omega
  · exact ⟨g, cap, cur, hv, hbg, hnc, hh, hs⟩
theorem blk_some {w : World} {g : Nat} {cur : Array Value} {e : TypeId} (h : Blk w g cur e) {i : Nat} (hi : i < cur.size) : ∃ u, w.cell? ⟨g, i, none⟩ = some u := ⟨cur[i], by rw [h.cell]; exact Array.getElem?_eq_getElem hi⟩
theorem Shelf.okAt {l : List Bn} (h : Shelf l) : ∀ y ∈ l, y.Ok := fun y hy => h.ok y hy
end Go.Proofs.YtnnbhebklnappaaGreatDoor
