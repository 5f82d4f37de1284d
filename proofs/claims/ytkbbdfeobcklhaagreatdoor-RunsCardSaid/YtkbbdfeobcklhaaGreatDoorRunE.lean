/-
  The program's machine in memory: take, lay, end, layOrFault, one, two.
-/
import Derived.Test.YtkbbdfeobcklhaaGreatDoorRunD
import Derived.Test.YtkbbdfeobcklhaaGreatDoorMach
import Derived.Test.YtkbbdfeobcklhaaGreatDoorVerR
import Derived.Deep.AppendLies
set_option linter.unusedVariables false
set_option linter.unusedSimpArgs false
namespace Go.Proofs.YtkbbdfeobcklhaaGreatDoor
open Go.RowKit

def cellsZ (l : List Int) : List Value := l.map fun n => .int .i64 n
def mCells (x : Itm) (y : Bn) (sv : Value) (p : Nat) (en : Bool) (k v n : Int) : Array Value :=
  #[.int .i64 x.size, .int .i64 x.speed, .int .i64 x.need, .int .i64 y.id, .int .i64 y.zone, .int .i64 y.cap, .int .i64 y.used, .int .i64 y.has, sv, .int .i64 p, .bool en, .int .i64 k, .int .i64 v, .int .i64 n]
/-- The machine: its block; its stack, a row of the run's own. -/
structure MSt (w : World) (mb : Nat) (x : Itm) (y : Bn) (sv : Value) (st : List Int) (p : Nat) (en : Bool) (k v n : Int) : Prop where
  m : Blk w mb (mCells x y sv p en k v n) 140
  row : w.ownsRow (mb + 1) 2 1 sv st.length (cellsZ st.reverse)
section
variable {w w' : World} {mb : Nat} {x : Itm} {y : Bn} {sv : Value} {st : List Int} {p : Nat} {en : Bool} {k v n : Int}
theorem MSt.c8 (h : MSt w mb x y sv st p en k v n) : w.cell? ⟨mb, 8, none⟩ = some sv := by rw [h.m.cell]; rfl
theorem MSt.c9 (h : MSt w mb x y sv st p en k v n) : w.cell? ⟨mb, 9, none⟩ = some (.int .i64 p) := by rw [h.m.cell]; rfl
theorem MSt.c10 (h : MSt w mb x y sv st p en k v n) : w.cell? ⟨mb, 10, none⟩ = some (.bool en) := by rw [h.m.cell]; rfl
theorem MSt.c11 (h : MSt w mb x y sv st p en k v n) : w.cell? ⟨mb, 11, none⟩ = some (.int .i64 k) := by rw [h.m.cell]; rfl
theorem MSt.c12 (h : MSt w mb x y sv st p en k v n) : w.cell? ⟨mb, 12, none⟩ = some (.int .i64 v) := by rw [h.m.cell]; rfl
theorem MSt.c13 (h : MSt w mb x y sv st p en k v n) : w.cell? ⟨mb, 13, none⟩ = some (.int .i64 n) := by rw [h.m.cell]; rfl
theorem MSt.lt (h : MSt w mb x y sv st p en k v n) : mb < w.heap.size := h.m.lt
theorem MSt.below (h : MSt w mb x y sv st p en k v n) (hb : Below w.heap.size w w') : MSt w' mb x y sv st p en k v n := ⟨h.m.below hb h.m.lt, own_below h.row hb⟩
theorem MSt.drew (h : MSt w mb x y sv st p en k v n) : MSt w.drew mb x y sv st p en k v n := ⟨h.m, h.row.drew⟩
theorem MSt.place (h : MSt w mb x y sv st p en k v n) (q : Nat) : MSt (w.setCell ⟨mb, 9, none⟩ (.int .i64 q)) mb x y sv st q en k v n := ⟨h.m.set 9 _, own_setCell h.row _ _ (Nat.lt_succ_self mb)⟩
theorem MSt.steps (h : MSt w mb x y sv st p en k v n) (q : Int) : MSt (w.setCell ⟨mb, 13, none⟩ (.int .i64 q)) mb x y sv st p en k v q := ⟨h.m.set 13 _, own_setCell h.row _ _ (Nat.lt_succ_self mb)⟩
theorem MSt.ended (h : MSt w mb x y sv st p en k v n) (a b : Int) : MSt (((w.setCell ⟨mb, 10, none⟩ (.bool true)).setCell ⟨mb, 11, none⟩ (.int .i64 a)).setCell ⟨mb, 12, none⟩ (.int .i64 b)) mb x y sv st p true a b n :=
  ⟨((h.m.set 10 _).set 11 _).set 12 _, own_setCell (own_setCell (own_setCell h.row _ _ (Nat.lt_succ_self mb)) _ _ (Nat.lt_succ_self mb)) _ _ (Nat.lt_succ_self mb)⟩
/-- The stack, written out, where it is not empty. -/
theorem MSt.form {a : Int} {r : List Int} (h : MSt w mb x y sv (a :: r) p en k v n) : ∃ g cap, sv = .slice (some ⟨g, 0, none⟩) (r.length + 1) cap ∧ mb < g ∧ r.length + 1 ≤ cap ∧ w.cell? ⟨g, r.length, none⟩ = some (.int .i64 a) := by
  rcases h.row.2 with ⟨_, h0⟩ | ⟨g, cap, cur, hv, hg, hh, hn, hm, hs, ht⟩
  · simp at h0
  · refine ⟨g, cap, hv, hg, hn, ?_⟩
    have h1 : (cur.toList.take ((a :: r).length * 1))[r.length]? = some (.int .i64 a) := by
      rw [ht]
      simp [cellsZ]
    rw [List.getElem?_take] at h1
    split at h1
    · simp [World.cell?, hh]
      simpa using h1
    · cases h1
theorem MSt.pop {a : Int} {r : List Int} {g cap : Nat} (h : MSt w mb x y (.slice (some ⟨g, 0, none⟩) (r.length + 1) cap) (a :: r) p en k v n) : MSt (w.setCell ⟨mb, 8, none⟩ (.slice (some ⟨g, 0, none⟩) r.length cap)) mb x y (.slice (some ⟨g, 0, none⟩) r.length cap) r p en k v n := by
  refine ⟨h.m.set 8 _, ?_⟩
  refine own_setCell (base := mb + 1) ?_ _ _ (Nat.lt_succ_self mb)
  refine ⟨by simp [cellsZ], .inr ?_⟩
  rcases h.row.2 with ⟨hv, _⟩ | ⟨g', cap', cur, hv, hg, hh, hn, hm, hs, ht⟩
  · cases hv
  · cases hv
    refine ⟨g, cap, cur, rfl, hg, hh, by simp at hn; omega, hm, hs, ?_⟩
    have h2 : (cur.toList.take ((a :: r).length * 1)).take (r.length * 1) = cellsZ r.reverse := by
      rw [ht]
      simp [cellsZ]
    rw [List.take_take] at h2
    rw [← h2]
    congr 1
    simp
end
theorem Tryz.infoI64 : (Tryz.prog.info? 2).map (fun i => (i.zero, i.size, i.bytes)) = some (some (.int .i64 0), 1, 8) := by kernel_rfl
set_option maxHeartbeats 1000000 in
theorem take_any {w : World} {mb : Nat} {x : Itm} {y : Bn} {sv : Value} {a : Int} {r : List Int} {p : Nat} {en : Bool} {k v n : Int} (hl : r.length ≤ 4000) (h : MSt w mb x y sv (a :: r) p en k v n) :
    Calls Tryz.prog 124 #[.pointer (some ⟨mb, 0, none⟩)] w fun e w' => e = .returned (.int .i64 a) ∧ Below mb w w' ∧ (∀ b, b ≠ mb → w'.heap[b]? = w.heap[b]?) ∧ ∃ sv', MSt w' mb x y sv' r p en k v n := by
  obtain ⟨g, cap, rfl, hg, hcap, ca⟩ := h.form
  have c8 := h.c8
  have f8 := h.m.free 8
  have HM : Hid (MSt w mb x y (.slice (some ⟨g, 0, none⟩) (r.length + 1) cap) (a :: r) p en k v n) := h
  clear h
  go_enter Tryz.func124, Tryz.ntmps124
  go_wp2
  go_ret
  exact ⟨rfl, (Below.refl _ _).setCell (p := ⟨mb, 8, none⟩) (Nat.le_refl _) _, fun b hb => Below.heap_setCell _ _ _ _ hb, _, HM.out.pop⟩
/-- A number laid on the stack. -/
theorem MSt.push {w w2 : World} {mb : Nat} {x : Itm} {y : Bn} {sv : Value} {st : List Int} {p : Nat} {en : Bool} {k v n z : Int} {g cap : Nat} {o : Obj} (h : MSt w mb x y sv st p en k v n)
    (hown : w2.ownsRow (mb + 1) 2 1 (.slice (some ⟨g, 0, none⟩) (st.length + 1) cap) (st.length + 1) (cellsZ st.reverse ++ [.int .i64 z])) (hg : (w.alloc o).grownBy w2 sv.ownBlock) :
    MSt (w2.setCell ⟨mb, 8, none⟩ (.slice (some ⟨g, 0, none⟩) (st.length + 1) cap)) mb x y (.slice (some ⟨g, 0, none⟩) (st.length + 1) cap) (z :: st) p en k v n ∧ Below mb w w2 := by
  have hne : sv.ownBlock ≠ some mb := by intro he; have := (h.row.lt _ he).1; omega
  have hlt := h.lt
  have hb2 : Blk w2 mb (mCells x y sv p en k v n) 140 := by
    unfold Blk
    rw [hg.block mb (by simp; omega) (Ne.symm hne)]
    exact h.m.alloc o
  refine ⟨⟨hb2.set 8 _, ?_⟩, ?_⟩
  · refine own_setCell (base := mb + 1) ?_ _ _ (Nat.lt_succ_self mb)
    have e : cellsZ (z :: st).reverse = cellsZ st.reverse ++ [.int .i64 z] := by simp [cellsZ]
    rw [e]
    exact hown
  · exact ((Below.refl mb w).alloc (Nat.le_of_lt hlt) o).grown hg (by simp; omega) (fun k hk => by have := (h.row.lt k hk).1; omega)
set_option maxHeartbeats 1000000 in
set_option maxRecDepth 100000 in
theorem lay_any {w : World} {mb : Nat} {x : Itm} {y : Bn} {sv : Value} {st : List Int} {p : Nat} {en : Bool} {k v n : Int} (z : Int) (hl : st.length ≤ 4000) (h : MSt w mb x y sv st p en k v n) :
    Calls Tryz.prog 120 #[.pointer (some ⟨mb, 0, none⟩), .int .i64 z] w fun e w' => e = .returned (.tuple #[]) ∧ Below mb w w' ∧ ∃ sv', MSt w' mb x y sv' (z :: st) p en k v n := by
  obtain ⟨i0, hin, hz0, hz1, hz2⟩ := info_parts Tryz.infoI64
  have c8 := h.c8
  have HM : Hid (MSt w mb x y sv st p en k v n) := h
  have hlt := h.lt
  have hne : sv.ownBlock ≠ some mb := by intro he; have := (h.row.lt _ he).1; omega
  have f8 := h.m.free 8
  clear h
  go_enter Tryz.func120, Tryz.ntmps120
  go_wp2_with (at_builtin; refine wpList_append_lies _ rfl _ _ 138 rfl (mb + 1) 2 i0 (.int .i64 0) 1 8 Tryz.underlying138 hin hz0 hz1 hz2 rfl (by decide) _ _ _ rfl (HM.out.row.alloc _) ⟨w.heap.size, 0, none⟩ 1 1 [.int .i64 z] rfl rfl (cell_one_new _ _ _) one_int1 (by omega) (by unfold maxLen; omega) (by omega) (by simp; omega) (w.heap.size + 1) (by simp) ?_; intro g cap w2 hown2 hgrow2 hat2 hlt2; have c8' := (hgrow2.cell_far ⟨mb, 8, none⟩ (by simp; omega) (Ne.symm hne)).trans ((HM.out.m.alloc _).cell 8); have f8' := (hgrow2.frozen_far ⟨mb, 8, none⟩ (by simp; omega) (Ne.symm hne)).trans ((HM.out.m.alloc _).free 8))
  go_end0
  obtain ⟨r1, r2⟩ := HM.out.push hown2 hgrow2
  exact ⟨rfl, r2.setCell (p := ⟨mb, 8, none⟩) (Nat.le_refl _) _, _, r1⟩
set_option maxHeartbeats 1000000 in
theorem end_any {w : World} {mb : Nat} {x : Itm} {y : Bn} {sv : Value} {st : List Int} {p : Nat} {en : Bool} {k v n : Int} (a b : Int) (h : MSt w mb x y sv st p en k v n) :
    Calls Tryz.prog 125 #[.pointer (some ⟨mb, 0, none⟩), .int .i64 a, .int .i64 b] w fun e w' => e = .returned (.tuple #[]) ∧ Below mb w w' ∧ MSt w' mb x y sv st p true a b n := by
  have c10 := h.c10
  have c11 := h.c11
  have c12 := h.c12
  have f10 := h.m.free 10
  have f11 := h.m.free 11
  have f12 := h.m.free 12
  have HM : Hid (MSt w mb x y sv st p en k v n) := h
  clear h
  go_enter Tryz.func125, Tryz.ntmps125
  go_wp2
  go_end0
  exact ⟨rfl, (((Below.refl mb w).setCell (p := ⟨mb, 10, none⟩) (Nat.le_refl _) _).setCell (p := ⟨mb, 11, none⟩) (Nat.le_refl _) _).setCell (p := ⟨mb, 12, none⟩) (Nat.le_refl _) _, HM.out.ended a b⟩
end Go.Proofs.YtkbbdfeobcklhaaGreatDoor
