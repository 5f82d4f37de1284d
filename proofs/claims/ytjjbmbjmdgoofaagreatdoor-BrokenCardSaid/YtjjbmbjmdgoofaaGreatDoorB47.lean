/-
  rule: one more rule of a policy under way.
-/
import Derived.Test.YtjjbmbjmdgoofaaGreatDoorB36
import Derived.Test.YtjjbmbjmdgoofaaGreatDoorB46
set_option linter.unusedVariables false
set_option linter.unusedSimpArgs false
namespace Go.Proofs.YtjjbmbjmdgoofaaGreatDoor
open Go.RowKit Go.Deep
abbrev mg (t : ByteArray) (k v s : Int) : Array Value := #[.string t, .int .i64 k, .int .i64 v, .int .i64 s]
structure RuM (w wx : World) (mb fb : Nat) (x : Itm) (y : Bn) (l0 l1 l2 l3 l4 l5 : Value) (st : Bool) (c : Array Value) : Prop where
  mak : MakAt wx mb fb x y l0 l1 l2 l3 l4 l5 st
  box : Blk wx w.heap.size c 25
  out : Blk wx (w.heap.size + 1) (mg ⟨#[]⟩ 0 0 0) 25
  bl : But fb w wx
  m : mb < w.heap.size
  f : fb < w.heap.size
section
variable {w wx w' : World} {mb fb : Nat} {x : Itm} {y : Bn} {l0 l1 l2 l3 l4 l5 : Value} {st : Bool} {c : Array Value}
theorem ruM_start (h : MakAt w mb fb x y l0 l1 l2 l3 l4 l5 st) (c : Array Value) : RuM w ((w.alloc (.cells c 25)).alloc (.cells (mg ⟨#[]⟩ 0 0 0) 25)) mb fb x y l0 l1 l2 l3 l4 l5 st c := by
  have hb := ((Below.refl w.heap.size w).alloc (Nat.le_refl _) (.cells c 25)).alloc (by simp) (.cells (mg ⟨#[]⟩ 0 0 0) 25)
  have h2 := Blk.new (w.alloc (.cells c 25)) (mg ⟨#[]⟩ 0 0 0) 25
  rw [show (w.alloc (.cells c 25)).heap.size = w.heap.size + 1 by simp] at h2
  exact ⟨h.below hb, (Blk.new w _ _).alloc _, h2, But.of hb, h.blk.lt, h.fed.lt⟩
theorem RuM.call (h : RuM w wx mb fb x y l0 l1 l2 l3 l4 l5 st c) (hM : MakAt w' mb fb x y l0 l1 l2 l3 l4 l5 st) (hB : But fb wx w') : RuM w w' mb fb x y l0 l1 l2 l3 l4 l5 st c :=
  ⟨hM, h.box.but hB (by have := h.f; omega), h.out.but hB (by have := h.f; omega), h.bl.trans hB, h.m, h.f⟩
theorem RuM.next (h : RuM w wx mb fb x y l0 l1 l2 l3 l4 l5 st c) (hF : FeedAt w' fb) (hB : But fb wx w') : RuM w w' mb fb x y l0 l1 l2 l3 l4 l5 st c := h.call (h.mak.next hF hB) hB
theorem RuM.al (h : RuM w wx mb fb x y l0 l1 l2 l3 l4 l5 st c) (o : Obj) : RuM w (wx.alloc o) mb fb x y l0 l1 l2 l3 l4 l5 st c := h.call (h.mak.below (box3 wx o)) (But.of (box3 wx o))
theorem RuM.setB (h : RuM w wx mb fb x y l0 l1 l2 l3 l4 l5 st c) (i : Nat) (v : Value) : RuM w (wx.setCell ⟨w.heap.size, i, none⟩ v) mb fb x y l0 l1 l2 l3 l4 l5 st (c.setIfInBounds i v) :=
  ⟨⟨h.mak.blk.other _ _ (by have := h.m; simp only; omega), h.mak.fed.other _ _ _ (by have := h.f; omega), h.mak.ne⟩, h.box.set i v, h.out.other _ _ (by simp only; omega), h.bl.st _ _ (Nat.le_refl _) v, h.m, h.f⟩
theorem RuM.facts (h : RuM w wx mb fb x y l0 l1 l2 l3 l4 l5 st c) : (∀ i, wx.cell? ⟨w.heap.size, i, none⟩ = c[i]?) ∧ (∀ i, wx.frozen? ⟨w.heap.size, i, none⟩ = false) ∧ (∀ i, wx.cell? ⟨w.heap.size + 1, i, none⟩ = (mg ⟨#[]⟩ 0 0 0)[i]?) ∧ (∀ i, wx.frozen? ⟨w.heap.size + 1, i, none⟩ = false) ∧ wx.cell? ⟨mb, 0, none⟩ = some (.pointer (some ⟨fb, 0, none⟩)) := ⟨h.box.cell, h.box.free, h.out.cell, h.out.free, h.mak.blk.cell 0⟩
def finU (w wx : World) (a b c d : Value) : World := (((wx.setCell ⟨w.heap.size + 1, 0, none⟩ a).setCell ⟨w.heap.size + 1, 1, none⟩ b).setCell ⟨w.heap.size + 1, 2, none⟩ c).setCell ⟨w.heap.size + 1, 3, none⟩ d
theorem RuM.fin (h : RuM w wx mb fb x y l0 l1 l2 l3 l4 l5 st c) (a b k d : Value) : (∀ i, (finU w wx a b k d).cell? ⟨w.heap.size + 1, i, none⟩ = #[a, b, k, d][i]?) ∧ MakAt (finU w wx a b k d) mb fb x y l0 l1 l2 l3 l4 l5 st ∧ But fb w (finU w wx a b k d) := by
  have hm : ∀ (wz : World) (i : Nat) (v : Value), MakAt wz mb fb x y l0 l1 l2 l3 l4 l5 st → MakAt (wz.setCell ⟨w.heap.size + 1, i, none⟩ v) mb fb x y l0 l1 l2 l3 l4 l5 st := fun wz i v q => ⟨q.blk.other _ _ (by have := h.m; simp only; omega), q.fed.other _ _ _ (by have := h.f; omega), q.ne⟩
  exact ⟨((((h.out.set 0 a).set 1 b).set 2 k).set 3 d).cell, hm _ _ _ (hm _ _ _ (hm _ _ _ (hm _ _ _ h.mak))), (((h.bl.st _ _ (by omega) a).st _ _ (by omega) b).st _ _ (by omega) k).st _ _ (by omega) d⟩
end
theorem when_none {C : Ctx → Prop} {T : ByteArray} {K S : Nat} {V : Int} {d : Bool} (hK : d = false → K = 0 ∧ V = 0) : WhenIs C T K V S d T K V S d true none := by
  refine ⟨by simp [whT], by omega, fun E hE => isO_none, by omega, ?_⟩
  cases d with
  | true => exact .inl ⟨rfl, rfl, rfl, rfl, rfl⟩
  | false => obtain ⟨rfl, rfl⟩ := hK rfl; exact .inr (.inr ⟨rfl, rfl, rfl, rfl, .inl ⟨rfl, rfl, rfl⟩⟩)
theorem when_txt (T tw : ByteArray) (kw : Wo) : (T ++ ⟨#[119, 104, 101, 110, 32]⟩ ++ tw ++ ⟨#[32]⟩).toList = T.toList ++ whT (some (tw, kw)) := by
  rw [toL_app, toL_app, toL_app, show (⟨#[119, 104, 101, 110, 32]⟩ : ByteArray).toList = [119, 104, 101, 110, 32] from toL_mk _, show (⟨#[32]⟩ : ByteArray).toList = [32] from toL_mk _]
  simp [whT, cWhen]
theorem when_size (T tw : ByteArray) : (T ++ ⟨#[119, 104, 101, 110, 32]⟩ ++ tw ++ ⟨#[32]⟩).size = T.size + tw.size + 6 := by
  have e1 : (⟨#[119, 104, 101, 110, 32]⟩ : ByteArray).size = 5 := rfl
  have e2 : (⟨#[32]⟩ : ByteArray).size = 1 := rfl
  rw [ByteArray.size_append, ByteArray.size_append, ByteArray.size_append, e1, e2]
  omega
theorem rej_txt (T : ByteArray) : (T ++ ⟨#[114, 101, 106, 101, 99, 116, 59]⟩).toList = T.toList ++ (actB none ++ [59]) := by
  rw [toL_app, show (⟨#[114, 101, 106, 101, 99, 116, 59]⟩ : ByteArray).toList = [114, 101, 106, 101, 99, 116, 59] from toL_mk _]
  rfl
theorem sco_txt (T te : ByteArray) : (T ++ ⟨#[115, 99, 111, 114, 101, 32]⟩ ++ te ++ ⟨#[59]⟩).toList = T.toList ++ (actB (some te.toList) ++ [59]) := by
  rw [toL_app, toL_app, toL_app, show (⟨#[115, 99, 111, 114, 101, 32]⟩ : ByteArray).toList = [115, 99, 111, 114, 101, 32] from toL_mk _, show (⟨#[59]⟩ : ByteArray).toList = [59] from toL_mk _]
  simp [actB, cScore]
theorem sco_size (T te : ByteArray) : (T ++ ⟨#[115, 99, 111, 114, 101, 32]⟩ ++ te ++ ⟨#[59]⟩).size = T.size + te.size + 7 := by
  have e1 : (⟨#[115, 99, 111, 114, 101, 32]⟩ : ByteArray).size = 6 := rfl
  have e2 : (⟨#[59]⟩ : ByteArray).size = 1 := rfl
  rw [ByteArray.size_append, ByteArray.size_append, ByteArray.size_append, e1, e2]
  omega
theorem rej_size (T : ByteArray) : (T ++ ⟨#[114, 101, 106, 101, 99, 116, 59]⟩).size = T.size + 7 := by
  have e1 : (⟨#[114, 101, 106, 101, 99, 116, 59]⟩ : ByteArray).size = 7 := rfl
  rw [ByteArray.size_append, e1]
end Go.Proofs.YtjjbmbjmdgoofaaGreatDoor
