/-
  Kept: moves on the bins of a store, one after the other.
  Kept: the bins that are left, when each is removed that is empty: plain.
-/
import Derived.Test.YtffpmkgjnjdbaabGreatDoorMV
import Derived.Deep.DeepCutAuto
import Derived.Deep.RegionWith
set_option linter.unusedVariables false
set_option linter.unusedSimpArgs false
namespace Go.Proofs.YtffpmkgjnjdbaabGreatDoor
open Go.RowKit

/-- A move. -/
structure Mov where
  pick : Bool
  bin : Int
  n : Int
def cellM (m : Mov) : List Value := [.bool m.pick, .int .i64 m.bin, .int .i64 m.n]
def cellsM (l : List Mov) : List Value := l.flatMap cellM
theorem cellsM_at (l : List Mov) (i : Nat) (h : i < l.length) (j : Nat) (hj : j < 3) : (cellsM l)[i * 3 + j]? = (cellM l[i])[j]? := by
  induction l generalizing i with
  | nil => simp at h
  | cons a r ih =>
    cases i with
    | zero =>
      simp only [cellsM, List.flatMap_cons, Nat.zero_mul, Nat.zero_add, List.getElem_cons_zero]
      rw [List.getElem?_append_left (by simp [cellM]; omega)]
    | succ i =>
      have hi : i < r.length := by simpa using h
      have := ih i hi
      simp only [cellsM, List.flatMap_cons, List.getElem_cons_succ] at this ⊢
      rw [List.getElem?_append_right (by simp [cellM]; omega), ← this]
      congr 1
      simp [cellM]; omega
/-- The caller's list reads so, the store's bins so. -/
structure KM (w0 wx : World) (gl c N sb : Nat) (L L' : List Bn) (im : ByteArray) : Prop where
  row : wx.ownsRow w0.heap.size 25 5 (.slice (some ⟨gl, 0, none⟩) N c) N (cellsB L)
  st : StoreAt wx sb L' im
  bl : Below w0.heap.size w0 wx
theorem KM.below {w0 wx w' : World} {gl c N sb : Nat} {L L' : List Bn} {im : ByteArray} (h : KM w0 wx gl c N sb L L' im) (hb : Below wx.heap.size wx w') : KM w0 w' gl c N sb L L' im := ⟨own_below h.row hb, h.st.below hb, h.bl.trans (hb.mono h.bl.size)⟩
theorem KM.al {w0 wx : World} {gl c N sb : Nat} {L L' : List Bn} {im : ByteArray} (h : KM w0 wx gl c N sb L L' im) (o : Obj) : KM w0 (wx.alloc o) gl c N sb L L' im := h.below (box3 wx o)
theorem KM.dr {w0 wx : World} {gl c N sb : Nat} {L L' : List Bn} {im : ByteArray} (h : KM w0 wx gl c N sb L L' im) : KM w0 wx.drew gl c N sb L L' im := h.below (below_drewN (Below.refl _ wx) 1)
theorem KM.but {w0 wx w' : World} {gl c N sb : Nat} {L L' L2 : List Bn} {im : ByteArray} (h : KM w0 wx gl c N sb L L' im) (hb : But sb wx w') (hs : StoreAt w' sb L2 im) (hg : gl < sb) (hw : w0.heap.size ≤ gl) : KM w0 w' gl c N sb L L2 im := by
  refine ⟨own_but h.row hb fun k hk => ?_, hs, h.bl.trans (hb.below (by omega) h.bl.size)⟩
  simp [Value.ownBlock] at hk
  omega
theorem KM.glt {w0 wx : World} {gl c N sb : Nat} {L L' : List Bn} {im : ByteArray} (h : KM w0 wx gl c N sb L L' im) : gl < wx.heap.size := (h.row.lt gl rfl).2
/-- A cell of another block is written. -/
theorem KM.oth {w0 wx : World} {gl c N sb : Nat} {L L' : List Bn} {im : ByteArray} (h : KM w0 wx gl c N sb L L' im) (b i : Nat) (v : Value) (hb : b ≠ gl) (hb2 : sb ≠ b) (hw : w0.heap.size ≤ b) (hoff : ∀ v im, Blk wx sb #[v, .string im] 107 → ∀ k, v.ownBlock = some k → k ≠ b) : KM w0 (wx.setCell ⟨b, i, none⟩ v) gl c N sb L L' im := by
  refine ⟨?_, h.st.st b i v hb2 (fun a c h1 k hk => hoff _ _ h1 k hk), h.bl.setCell (p := ⟨b, i, none⟩) hw v⟩
  refine ⟨h.row.1, ?_⟩
  rcases h.row.2 with ⟨hv, _⟩ | ⟨g, cap, cur, hv, hbg, hh, r⟩
  · cases hv
  · refine .inr ⟨g, cap, cur, hv, hbg, ?_, r⟩
    cases hv
    rw [Below.heap_setCell _ _ _ _ (by simpa using hb.symm)]
    exact hh
theorem off_set {w : World} {sb b i : Nat} {x : Value} (hb2 : sb ≠ b) (hoff : ∀ v im, Blk w sb #[v, .string im] 107 → ∀ k, v.ownBlock = some k → k ≠ b) : ∀ v im, Blk (w.setCell ⟨b, i, none⟩ x) sb #[v, .string im] 107 → ∀ k, v.ownBlock = some k → k ≠ b := fun v im h => hoff v im (h.back (by simpa using hb2))
theorem KM.oth5 {w0 wx : World} {gl c N sb : Nat} {L L' : List Bn} {im : ByteArray} (h : KM w0 wx gl c N sb L L' im) (b : Nat) (v0 v1 v2 v3 v4 : Value) (hb : b ≠ gl) (hb2 : sb ≠ b) (hw : w0.heap.size ≤ b) (hoff : ∀ v im, Blk wx sb #[v, .string im] 107 → ∀ k, v.ownBlock = some k → k ≠ b) :
    KM w0 (((((wx.setCell ⟨b, 0, none⟩ v0).setCell ⟨b, 1, none⟩ v1).setCell ⟨b, 2, none⟩ v2).setCell ⟨b, 3, none⟩ v3).setCell ⟨b, 4, none⟩ v4) gl c N sb L L' im :=
  ((((h.oth b 0 v0 hb hb2 hw hoff).oth b 1 v1 hb hb2 hw (off_set hb2 hoff)).oth b 2 v2 hb hb2 hw (off_set hb2 (off_set hb2 hoff))).oth b 3 v3 hb hb2 hw (off_set hb2 (off_set hb2 (off_set hb2 hoff)))).oth b 4 v4 hb hb2 hw (off_set hb2 (off_set hb2 (off_set hb2 (off_set hb2 hoff))))
/-- The caller's list is written, too. -/
theorem KM.own5 {w0 wx : World} {gl c N sb : Nat} {L L' : List Bn} {im : ByteArray} (h : KM w0 wx gl c N sb L L' im) (i : Nat) (hi : i < L.length) (b : Bn) (hg : gl < sb) (hw : w0.heap.size ≤ gl) :
    KM w0 (((((wx.setCell ⟨gl, i * 5, none⟩ (.int .i64 b.id)).setCell ⟨gl, i * 5 + 1, none⟩ (.int .i64 b.zone)).setCell ⟨gl, i * 5 + 2, none⟩ (.int .i64 b.cap)).setCell ⟨gl, i * 5 + 3, none⟩ (.int .i64 b.used)).setCell ⟨gl, i * 5 + 4, none⟩ (.int .i64 b.has)) gl c N sb (L.set i b) L' im := by
  have hoff : ∀ v im, Blk wx sb #[v, .string im] 107 → ∀ k, v.ownBlock = some k → k ≠ gl := by
    intro v im' hv k hk
    obtain ⟨a, c, h1, h2⟩ := h.st.ok
    have hv' : v = .slice a L'.length c := by
      have h3 := congrArg (fun x : Array Value => x[0]?) (Blk.same hv h1)
      simpa using h3
    subst hv'
    have := (h2.lt k hk).1
    omega
  have hne : sb ≠ gl := by omega
  refine ⟨own_set5 h.row i hi b, ?_, below_set5 h.bl gl i hw b⟩
  have s1 := h.st.st gl (i * 5) (.int .i64 b.id) hne (fun a c h1 k hk => hoff _ _ h1 k hk)
  have s2 := s1.st gl (i * 5 + 1) (.int .i64 b.zone) hne (fun a c h1 k hk => off_set hne hoff _ _ h1 k hk)
  have s3 := s2.st gl (i * 5 + 2) (.int .i64 b.cap) hne (fun a c h1 k hk => off_set hne (off_set hne hoff) _ _ h1 k hk)
  have s4 := s3.st gl (i * 5 + 3) (.int .i64 b.used) hne (fun a c h1 k hk => off_set hne (off_set hne (off_set hne hoff)) _ _ h1 k hk)
  exact s4.st gl (i * 5 + 4) (.int .i64 b.has) hne (fun a c h1 k hk => off_set hne (off_set hne (off_set hne (off_set hne hoff))) _ _ h1 k hk)
/-- The store's list lies beside a block that was made just ahead of a move. -/
theorem off_new {wr w3 : World} {sb : Nat} {L' : List Bn} {im : ByteArray} {o : Obj} (h : StoreAt wr sb L' im) (hr : RowNew ((wr.alloc o).drew) w3 sb) : ∀ v im, Blk w3 sb #[v, .string im] 107 → ∀ k, v.ownBlock = some k → k ≠ wr.heap.size := by
  intro v im' hv k hk
  rcases hr v im' hv with ⟨im0, h0⟩ | h0
  · obtain ⟨a, c, h1, h2⟩ := h.ok
    have h1' : Blk (wr.alloc o).drew sb #[.slice a L'.length c, .string im] 107 := (h1.alloc o).drew
    have hv' : v = .slice a L'.length c := by
      have h3 := congrArg (fun x : Array Value => x[0]?) (Blk.same h0 h1')
      simpa using h3
    subst hv'
    have := (h2.lt k hk).2
    omega
  · have := h0 k hk
    simp at this
    omega
end Go.Proofs.YtffpmkgjnjdbaabGreatDoor

set_option linter.unusedVariables false
set_option linter.unusedSimpArgs false
namespace Go.Proofs.YtffpmkgjnjdbaabGreatDoor
open Go.RowKit

theorem Shelf.pw {l : List Bn} (h : Shelf l) : l.Pairwise (fun a b => a.id < b.id) := by
  rw [List.pairwise_iff_getElem]
  exact fun i j hi hj hij => h.up i j hi hj hij
theorem Shelf.sub {l l' : List Bn} (h : Shelf l) (hs : l'.Sublist l) : Shelf l' := by
  have hp := h.pw.sublist hs
  rw [List.pairwise_iff_getElem] at hp
  exact ⟨fun i j hi hj hij => hp i j hi hj hij, fun b hb => h.ok b (hs.subset hb)⟩
def leftB (L : List Bn) (i : Nat) : List Bn := (L.take i).filter fun b => decide (0 < b.used)
def bsAt (L : List Bn) (i : Nat) : List Bn := leftB L i ++ L.drop i
theorem bsAt_sub (L : List Bn) (i : Nat) : (bsAt L i).Sublist L := by
  have h : (leftB L i ++ L.drop i).Sublist (L.take i ++ L.drop i) := List.Sublist.append List.filter_sublist (List.Sublist.refl _)
  rw [List.take_append_drop] at h
  exact h
theorem bsAt_zero (L : List Bn) : bsAt L 0 = L := by simp [bsAt, leftB]
theorem bsAt_end (L : List Bn) : bsAt L L.length = leftB L L.length := by simp [bsAt]
theorem leftB_yes {L : List Bn} {i : Nat} (hi : i < L.length) (hu : 0 < L[i].used) : leftB L (i + 1) = leftB L i ++ [L[i]] := by
  unfold leftB
  rw [take_next hi, List.filter_append]
  simp [hu]
theorem leftB_no {L : List Bn} {i : Nat} (hi : i < L.length) (hu : ¬ 0 < L[i].used) : leftB L (i + 1) = leftB L i := by
  unfold leftB
  rw [take_next hi, List.filter_append]
  simp [hu]
theorem bsAt_yes {L : List Bn} {i : Nat} (hi : i < L.length) (hu : 0 < L[i].used) : bsAt L (i + 1) = bsAt L i := by
  unfold bsAt
  rw [leftB_yes hi hu, drop_next hi]
  simp
theorem bsAt_find {L : List Bn} (h : Shelf L) {i : Nat} (hi : i < L.length) : findB (bsAt L i) L[i].id = some L[i] := by
  have hs := h.sub (bsAt_sub L i)
  have hl : (leftB L i).length < (bsAt L i).length := by simp [bsAt]; omega
  have he : (bsAt L i)[(leftB L i).length] = L[i] := by simp [bsAt]
  have := findB_at hs (leftB L i).length hl
  rw [he] at this
  exact this
theorem left_ne {L : List Bn} (h : Shelf L) {i : Nat} (hi : i < L.length) : (∀ x ∈ leftB L i, x.id ≠ L[i].id) ∧ ∀ x ∈ L.drop (i + 1), x.id ≠ L[i].id := by
  refine ⟨fun x hx => ?_, fun x hx => ?_⟩
  · have hx' := (List.mem_filter.1 hx).1
    obtain ⟨j, hj, rfl⟩ := List.getElem_of_mem hx'
    simp at hj
    rw [List.getElem_take]
    have := h.up j i (by omega) hi (by omega)
    omega
  · have := shelf_front h i hi x hx
    omega
theorem bsAt_drop {L : List Bn} (h : Shelf L) {i : Nat} (hi : i < L.length) (hu : ¬ 0 < L[i].used) : dropB (bsAt L i) L[i].id = bsAt L (i + 1) ∧ findB (bsAt L (i + 1)) L[i].id = none := by
  obtain ⟨h1, h2⟩ := left_ne h hi
  have e : bsAt L (i + 1) = leftB L i ++ L.drop (i + 1) := by unfold bsAt; rw [leftB_no hi hu]
  refine ⟨?_, ?_⟩
  · rw [e]
    unfold dropB bsAt
    rw [drop_next hi, List.filter_append, List.filter_cons]
    simp only [bne_self_eq_false, Bool.false_eq_true, if_false]
    rw [List.filter_eq_self.2 (fun x hx => by simpa using h1 x hx), List.filter_eq_self.2 (fun x hx => by simpa using h2 x hx)]
  · rw [e]
    exact findB_none fun x hx => (List.mem_append.1 hx).elim (h1 x) (h2 x)
theorem remK_used {L : List Bn} (h : Shelf L) {i : Nat} (hi : i < L.length) (hu : 0 < L[i].used) : remK (bsAt L i) L[i].id = 14 := by
  unfold remK
  rw [bsAt_find h hi]
  simp [hu]
theorem remK_free {L : List Bn} (h : Shelf L) {i : Nat} (hi : i < L.length) (hu : ¬ 0 < L[i].used) : remK (bsAt L i) L[i].id = 0 := by
  unfold remK
  rw [bsAt_find h hi]
  simp [hu]
theorem remK_none {l : List Bn} {id : Int} (h : findB l id = none) : remK l id = 12 := by unfold remK; rw [h]
theorem putK_none {l : List Bn} {id n : Int} (h : findB l id = none) : putK l id n = 12 := by unfold putK; rw [h]
/-- The store's list and another row lie apart. -/
def Sep (wr : World) (sb : Nat) (u : Value) : Prop := ∀ v im, Blk wr sb #[v, .string im] 107 → ∀ k, v.ownBlock = some k → u.ownBlock ≠ some k
theorem Sep.to {w w' : World} {sb : Nat} {u : Value} (h : Sep w sb u) (hr : RowNew w w' sb) (hu : ∀ k, u.ownBlock = some k → k < w.heap.size) : Sep w' sb u := by
  intro v im hv k hk hk'
  rcases hr v im hv with ⟨im0, h0⟩ | h0
  · exact h v im0 h0 k hk hk'
  · have := h0 k hk
    have := hu k hk'
    omega
theorem Sep.below {w w' : World} {sb : Nat} {u : Value} (h : Sep w sb u) (hlt : sb < w.heap.size) (hb : Below w.heap.size w w') : Sep w' sb u := by
  intro v im hv k hk hk'
  exact h v im ((hb.block sb hlt).symm.trans hv) k hk hk'
theorem store_row {w : World} {sb : Nat} {bs : List Bn} {im : ByteArray} (h : StoreAt w sb bs im) : ∀ v im, Blk w sb #[v, .string im] 107 → ∀ k, v.ownBlock = some k → sb < k ∧ k < w.heap.size := by
  intro v im' hv k hk
  obtain ⟨a, c, h1, h2⟩ := h.ok
  have hv' : v = .slice a bs.length c := by
    have h3 := congrArg (fun x : Array Value => x[0]?) (Blk.same hv h1)
    simpa using h3
  subst hv'
  have := h2.lt k hk
  omega
/-- A row beside the store grows. -/
theorem KM.grown {w0 wx w' : World} {gl c N sb : Nat} {L L' : List Bn} {im : ByteArray} {u u' : Value} {o : Obj} (h : KM w0 wx gl c N sb L L' im) (hg : (wx.alloc o).grownBy w' u.ownBlock) (hu : ∀ k, u.ownBlock = some k → sb < k) (hgs : gl < sb) (hw : w0.heap.size ≤ gl) (hsep : Sep wx sb u)
    (hu' : ∀ k, u'.ownBlock = some k → u.ownBlock = some k ∨ wx.heap.size ≤ k) : KM w0 w' gl c N sb L L' im ∧ Sep w' sb u' := by
  have hsl := h.st.lt
  have hbk : ∀ k, k < wx.heap.size → u.ownBlock ≠ some k → w'.heap[k]? = wx.heap[k]? := by
    intro k hk hne
    rw [hg.block k (by simp; omega) (fun he => hne he.symm)]
    exact (box3 wx o).block k hk
  have hsb : w'.heap[sb]? = wx.heap[sb]? := hbk sb hsl (fun he => by have := hu sb he; omega)
  refine ⟨⟨?_, ?_, ?_⟩, ?_⟩
  · refine ⟨h.row.1, ?_⟩
    rcases h.row.2 with ⟨hv, _⟩ | ⟨g, cap, cur, hv, hbg, hh, r⟩
    · cases hv
    · refine .inr ⟨g, cap, cur, hv, hbg, ?_, r⟩
      cases hv
      rw [hbk gl (lt_of_block hh) (fun he => by have := hu gl he; omega)]
      exact hh
  · obtain ⟨a, c', h1, h2⟩ := h.st.ok
    refine ⟨a, c', hsb.trans h1, h2.1, ?_⟩
    rcases h2.2 with hn | ⟨g, cap, cur, hv, hbg, hh, r⟩
    · exact .inl hn
    · refine .inr ⟨g, cap, cur, hv, hbg, ?_, r⟩
      rw [hbk g (lt_of_block hh) (hsep _ _ h1 g (by rw [hv]; rfl))]
      exact hh
  · exact (h.bl.alloc h.bl.size o).grown hg (by have := h.bl.size; simp; omega) (fun k hk => by have := hu k hk; omega)
  · intro v im' hv k hk hk'
    have hv0 : Blk wx sb #[v, .string im'] 107 := hsb.symm.trans hv
    rcases hu' k hk' with h3 | h3
    · exact hsep v im' hv0 k hk h3
    · have := (store_row h.st v im' hv0 k hk).2
      omega
end Go.Proofs.YtffpmkgjnjdbaabGreatDoor
