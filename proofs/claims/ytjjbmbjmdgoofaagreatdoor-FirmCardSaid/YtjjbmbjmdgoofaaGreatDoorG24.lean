/-
  Bins in the order of their numbers: plain.
-/
import Derived.Test.YtjjbmbjmdgoofaaGreatDoorG23
import Derived.BigQuiet
set_option linter.unusedVariables false
set_option linter.unusedSimpArgs false
namespace Go.Proofs.YtjjbmbjmdgoofaaGreatDoor
open Go.RowKit
def cellB (b : Bn) : List Value := [.int .i64 b.id, .int .i64 b.zone, .int .i64 b.cap, .int .i64 b.used, .int .i64 b.has]
def cellsB (l : List Bn) : List Value := l.flatMap cellB
theorem cellsB_snoc (l : List Bn) (t : Bn) : cellsB (l ++ [t]) = cellsB l ++ cellB t := by simp [cellsB]
theorem cellsB_at (l : List Bn) (i : Nat) (h : i < l.length) (j : Nat) (hj : j < 5) : (cellsB l)[i * 5 + j]? = (cellB l[i])[j]? := by
  induction l generalizing i with
  | nil => simp at h
  | cons a r ih =>
    cases i with
    | zero =>
      simp only [cellsB, List.flatMap_cons, Nat.zero_mul, Nat.zero_add, List.getElem_cons_zero]
      rw [List.getElem?_append_left (by simp [cellB]; omega)]
    | succ i =>
      have hi : i < r.length := by simpa using h
      have := ih i hi
      simp only [cellsB, List.flatMap_cons, List.getElem_cons_succ] at this ⊢
      rw [List.getElem?_append_right (by simp [cellB]; omega), ← this]
      congr 1
      simp [cellB]; omega
theorem cellsB_get (l : List Bn) (i : Nat) (h : i < l.length) :
    (cellsB l)[i * 5]? = some (.int .i64 l[i].id) ∧ (cellsB l)[i * 5 + 1]? = some (.int .i64 l[i].zone) ∧ (cellsB l)[i * 5 + 2]? = some (.int .i64 l[i].cap) ∧ (cellsB l)[i * 5 + 3]? = some (.int .i64 l[i].used) ∧ (cellsB l)[i * 5 + 4]? = some (.int .i64 l[i].has) :=
  ⟨cellsB_at l i h 0 (by omega), cellsB_at l i h 1 (by omega), cellsB_at l i h 2 (by omega), cellsB_at l i h 3 (by omega), cellsB_at l i h 4 (by omega)⟩
theorem cellsB_set (l : List Bn) (i : Nat) (h : i < l.length) (b : Bn) : cellsB (l.set i b) = (((((cellsB l).set (i * 5) (.int .i64 b.id)).set (i * 5 + 1) (.int .i64 b.zone)).set (i * 5 + 2) (.int .i64 b.cap)).set (i * 5 + 3) (.int .i64 b.used)).set (i * 5 + 4) (.int .i64 b.has) := by
  induction l generalizing i with
  | nil => simp at h
  | cons a r ih =>
    cases i with
    | zero => simp [cellsB, cellB]
    | succ i =>
      have hi : i < r.length := by simpa using h
      have e := ih i hi
      simp only [List.set_cons_succ, cellsB, List.flatMap_cons] at e ⊢
      rw [e]
      simp only [cellB, List.cons_append, List.nil_append]
      rw [show (i + 1) * 5 = i * 5 + 5 by omega]
      simp [List.set_cons_succ, show i * 5 + 5 + 1 = (i * 5 + 1) + 5 by omega, show i * 5 + 5 + 2 = (i * 5 + 2) + 5 by omega, show i * 5 + 5 + 3 = (i * 5 + 3) + 5 by omega, show i * 5 + 5 + 4 = (i * 5 + 4) + 5 by omega]
def findB (l : List Bn) (id : Int) : Option Bn := l.find? fun b => b.id == id
def insB (l : List Bn) (b : Bn) : List Bn := l.takeWhile (fun x => decide (x.id < b.id)) ++ b :: l.dropWhile (fun x => decide (x.id < b.id))
def dropB (l : List Bn) (id : Int) : List Bn := l.filter fun b => b.id != id
def replB (l : List Bn) (b : Bn) : List Bn := l.map fun x => if x.id = b.id then b else x
structure Shelf (l : List Bn) : Prop where
  up : ∀ (i j : Nat) (hi : i < l.length) (hj : j < l.length), i < j → l[i].id < l[j].id
  ok : ∀ b ∈ l, b.Ok
theorem Shelf.nil : Shelf [] := ⟨fun i j hi => by simp at hi, by simp⟩
theorem findB_at {l : List Bn} (h : Shelf l) (i : Nat) (hi : i < l.length) : findB l l[i].id = some l[i] := by
  unfold findB
  rw [List.find?_eq_some_iff_getElem]
  refine ⟨by simp, i, hi, rfl, fun j hj => ?_⟩
  have := h.up j i (by omega) hi hj
  simp; omega
theorem findB_none {l : List Bn} {id : Int} (h : ∀ b ∈ l, b.id ≠ id) : findB l id = none := by
  unfold findB
  simp only [List.find?_eq_none, beq_iff_eq]
  exact h
theorem takeWhile_all {α : Type} (p : α → Bool) (l : List α) (k : Nat) (hk : k ≤ l.length) (h1 : ∀ (j : Nat) (hj : j < l.length), j < k → p l[j] = true) (h2 : ∀ h : k < l.length, p l[k] = false) : l.takeWhile p = l.take k ∧ l.dropWhile p = l.drop k := by
  induction l generalizing k with
  | nil => simp
  | cons a r ih =>
    cases k with
    | zero =>
      have := h2 (by simp)
      simp at this
      simp [this]
    | succ k =>
      have h0 := h1 0 (by simp) (by omega)
      simp at h0
      obtain ⟨e1, e2⟩ := ih k (by simpa using hk) (fun j hj hjk => by have := h1 (j + 1) (by simpa using hj) (by omega); simpa using this) (fun h => by have := h2 (by simpa using h); simpa using this)
      simp [h0, e1, e2]
theorem insB_at {l : List Bn} {b : Bn} (k : Nat) (hk : k ≤ l.length) (h1 : ∀ (j : Nat) (hj : j < l.length), j < k → l[j].id < b.id) (h2 : ∀ h : k < l.length, ¬ l[k].id < b.id) : insB l b = l.take k ++ b :: l.drop k := by
  obtain ⟨e1, e2⟩ := takeWhile_all (fun x : Bn => decide (x.id < b.id)) l k hk (fun j hj hjk => by simpa using h1 j hj hjk) (fun h => by simpa using h2 h)
  unfold insB
  rw [e1, e2]
theorem Shelf.snoc {l : List Bn} (h : Shelf l) (b : Bn) (hb : ∀ x ∈ l, x.id < b.id) (hok : b.Ok) : Shelf (l ++ [b]) := by
  refine ⟨fun i j hi hj hij => ?_, fun x hx => ?_⟩
  · simp at hi hj
    by_cases hjl : j < l.length
    · rw [List.getElem_append_left (by omega), List.getElem_append_left hjl]
      exact h.up i j (by omega) hjl hij
    · rw [List.getElem_append_left (by omega), List.getElem_append_right (by omega)]
      simp
      exact hb _ (List.getElem_mem _)
  · rcases List.mem_append.1 hx with h1 | h1
    · exact h.ok x h1
    · simp at h1; subst h1; exact hok
end Go.Proofs.YtjjbmbjmdgoofaaGreatDoor
namespace Go.Proofs.YtjjbmbjmdgoofaaGreatDoor
open Go.RowKit
theorem Tryz.infoBin : (Tryz.prog.info? 31).map (fun i => (i.zero, i.size, i.bytes)) = some (some (.agg #[.int .i64 0, .int .i64 0, .int .i64 0, .int .i64 0, .int .i64 0]), 5, 40) := by kernel_rfl
theorem one_bin (b : Bn) : ∀ u ∈ [Value.int .i64 b.id, .int .i64 b.zone, .int .i64 b.cap, .int .i64 b.used, .int .i64 b.has], u.oneCell' = true := by
  intro u hu
  simp at hu
  rcases hu with rfl | rfl | rfl | rfl | rfl <;> rfl
theorem cell_five (w : World) (x y z t u : Value) (e : TypeId) : ∀ j v, [x, y, z, t, u][j]? = some v → (w.alloc (.cells #[x, y, z, t, u] e)).cell? ((⟨w.heap.size, 0, none⟩ : Addr).add j) = some v := by
  intro j v hj
  match j, hj with
  | 0, hj => simp at hj; subst hj; simp [Addr.add]
  | 1, hj => simp at hj; subst hj; simp [Addr.add]
  | 2, hj => simp at hj; subst hj; simp [Addr.add]
  | 3, hj => simp at hj; subst hj; simp [Addr.add]
  | 4, hj => simp at hj; subst hj; simp [Addr.add]
theorem bin_cells {w : World} {bs : List Bn} {g o : Nat} (hc : ∀ j u, (cellsB bs)[j]? = some u → w.cell? ⟨g, o + j, none⟩ = some u) (i : Nat) (hi : i < bs.length) :
    w.cell? ⟨g, o + i * 5, none⟩ = some (.int .i64 bs[i].id) ∧ w.cell? ⟨g, o + i * 5 + 1, none⟩ = some (.int .i64 bs[i].zone) ∧ w.cell? ⟨g, o + i * 5 + 2, none⟩ = some (.int .i64 bs[i].cap) ∧ w.cell? ⟨g, o + i * 5 + 3, none⟩ = some (.int .i64 bs[i].used) ∧ w.cell? ⟨g, o + i * 5 + 4, none⟩ = some (.int .i64 bs[i].has) := by
  obtain ⟨h0, h1, h2, h3, h4⟩ := cellsB_get bs i hi
  exact ⟨hc _ _ h0, hc _ _ h1, hc _ _ h2, hc _ _ h3, hc _ _ h4⟩
theorem findB_step {l : List Bn} {id : Int} (i : Nat) (hi : i < l.length) (h1 : ∀ j (hj : j < i) (hl : j < l.length), l[j].id ≠ id) (h2 : l[i].id = id) : findB l id = some l[i] := by
  unfold findB
  rw [List.find?_eq_some_iff_getElem]
  exact ⟨by simpa using h2, i, hi, rfl, fun j hj => by simpa using h1 j hj (by omega)⟩
theorem findB_end {l : List Bn} {id : Int} (h1 : ∀ j (hl : j < l.length), l[j].id ≠ id) : findB l id = none := by
  unfold findB
  simp only [List.find?_eq_none, beq_iff_eq]
  intro x hx
  obtain ⟨j, hj, rfl⟩ := List.getElem_of_mem hx
  exact h1 j hj
def zeroB : Bn := ⟨0, 0, 0, 0, 0⟩
set_option maxHeartbeats 1000000 in
theorem find_any (bs : List Bn) (id : Int) (v : Value) (w : World) (h : Reads w v bs.length (cellsB bs)) (hl : bs.length ≤ 100) :
    Calls Tryz.prog 76 #[v, .int .i64 id] w fun e w' => Below w.heap.size w w' ∧ ((∃ b, findB bs id = some b ∧ e = .returned (.tuple #[bnA b, .bool true])) ∨ (findB bs id = none ∧ e = .returned (.tuple #[bnA zeroB, .bool false]))) := by
  obtain ⟨a, c, rfl⟩ := h.shape
  have HH := Hid.mk2 h
  have HN := Hid.mk2 (Blk.new w #[.int .i64 0, .int .i64 0, .int .i64 0, .int .i64 0, .int .i64 0] 31)
  clear h
  go_enter Tryz.func76, Tryz.ntmps76
  go_wp2
  go_loop [6] (fun vi => ∃ i : Nat, i ≤ bs.length ∧ vi = .int .i64 i ∧ ∀ j (hj : j < i) (hl : j < bs.length), bs[j].id ≠ id) (fun i => bs.length - (intOf i).toNat)
  case atStart => exact ⟨0, Nat.zero_le _, rfl, fun j hj => by omega⟩
  case round =>
    obtain ⟨i, hi, rfl, hall⟩ := hrel
    have HA := Hid.mk2 hall
    clear hall
    by_cases hlt : i < bs.length
    · obtain ⟨g, o, cap, hcut, hcap, hg, hc⟩ := HH.out.pos (by omega)
      cases hcut
      obtain ⟨c0, c1, c2, c3, c4⟩ := bin_cells hc i hlt
      have e0 := ((box3 w (.cells #[.int .i64 0, .int .i64 0, .int .i64 0, .int .i64 0, .int .i64 0] 31)).cell (p := ⟨g, o + i * 5, none⟩) hg).trans c0
      have e1 := ((box3 w (.cells #[.int .i64 0, .int .i64 0, .int .i64 0, .int .i64 0, .int .i64 0] 31)).cell (p := ⟨g, o + i * 5 + 1, none⟩) hg).trans c1
      have e2 := ((box3 w (.cells #[.int .i64 0, .int .i64 0, .int .i64 0, .int .i64 0, .int .i64 0] 31)).cell (p := ⟨g, o + i * 5 + 2, none⟩) hg).trans c2
      have e3 := ((box3 w (.cells #[.int .i64 0, .int .i64 0, .int .i64 0, .int .i64 0, .int .i64 0] 31)).cell (p := ⟨g, o + i * 5 + 3, none⟩) hg).trans c3
      have e4 := ((box3 w (.cells #[.int .i64 0, .int .i64 0, .int .i64 0, .int .i64 0, .int .i64 0] 31)).cell (p := ⟨g, o + i * 5 + 4, none⟩) hg).trans c4
      generalize hb : bs[i] = b at *
      have HBE := Hid.mk2 hb
      clear hc c0 c1 c2 c3 c4 hb
      by_cases heq : b.id = id
      · have heq' : (b.id == id) = true := by simpa using heq
        have HE := Hid.mk2 heq
        clear heq
        go_wp2
        refine bodyPost_ret (v := .tuple #[.agg #[.int .i64 b.id, .int .i64 b.zone, .int .i64 b.cap, .int .i64 b.used, .int .i64 b.has], .bool true]) (by simp [results, Tryz.results76, go_sem]) rfl ⟨?_, .inl ⟨b, by rw [findB_step i hlt HA.out (by rw [HBE.out]; exact HE.out), HBE.out], rfl⟩⟩
        exact box3 w _
      · have heq' : (b.id == id) = false := by simpa using heq
        have HE := Hid.mk2 heq
        clear heq
        go_wp2
        go_round
        case rel =>
          refine ⟨i + 1, by omega, by go_num, fun j hj hl => ?_⟩
          by_cases hji : j < i
          · exact HA.out j hji hl
          · have : j = i := by omega
            subst this
            rw [HBE.out]
            exact HE.out
        case measure => simp [intOf]; omega
    · go_wp2
      refine bodyPost_ret (v := .tuple #[.agg #[.int .i64 0, .int .i64 0, .int .i64 0, .int .i64 0, .int .i64 0], .bool false]) (by simp [results, Tryz.results76, go_sem]) rfl ⟨?_, .inr ⟨findB_end (fun j hl => HA.out j (by omega) hl), rfl⟩⟩
      exact box3 w _
theorem own_step {w wr w2 : World} {acc : List Bn} {v v' : Value} {b : Bn} {e : TypeId} {o : Obj} (hbel : Below w.heap.size w wr)
    (hown2 : w2.ownsRow w.heap.size e 5 v' (acc.length + 1) (cellsB acc ++ [.int .i64 b.id, .int .i64 b.zone, .int .i64 b.cap, .int .i64 b.used, .int .i64 b.has])) (hg : (wr.alloc o).grownBy w2 v.ownBlock) (hown1 : wr.ownsRow w.heap.size e 5 v acc.length (cellsB acc)) :
    w2.ownsRow w.heap.size e 5 v' (acc ++ [b]).length (cellsB (acc ++ [b])) ∧ Below w.heap.size w w2 := by
  have hs1 := hbel.size
  refine ⟨?_, ?_⟩
  · rw [cellsB_snoc]
    simp only [cellB, List.length_append, List.length_cons, List.length_nil]
    exact hown2
  · exact (hbel.alloc (by omega) o).grown hg (by simp; omega) (fun k hk => (hown1.lt k hk).1)
set_option maxHeartbeats 1000000 in
theorem Copy_any (bs : List Bn) (v : Value) (w : World) (h : Reads w v bs.length (cellsB bs)) (hl : bs.length ≤ 100) :
    Calls Tryz.prog 49 #[v] w fun e w' => Below w.heap.size w w' ∧ ∃ v', e = .returned v' ∧ w'.ownsRow w.heap.size 31 5 v' bs.length (cellsB bs) := by
  obtain ⟨i0, hi0, hz0, hz1, hz2⟩ := info_parts Tryz.infoBin
  obtain ⟨a, c, rfl⟩ := h.shape
  have HH := Hid.mk2 h
  clear h
  go_enter Tryz.func49, Tryz.ntmps49
  go_wp2
  go_loopw [3, 4] (fun v vi wr => ∃ i : Nat, i ≤ bs.length ∧ vi = .int .i64 i ∧ wr.ownsRow w.heap.size 31 5 v (bs.take i).length (cellsB (bs.take i)) ∧ Below w.heap.size w wr) (fun _ i _ => bs.length - (intOf i).toNat)
  case atStart => exact ⟨0, Nat.zero_le _, rfl, by simpa [cellsB] using World.ownsRow_made w #[] 0 (Nat.le_refl _) (by unfold maxLen; omega) rfl, (Below.refl _ _).alloc (Nat.le_refl _) _⟩
  case round =>
    obtain ⟨i, hi, rfl, hown, hbel⟩ := hrel
    have hbs := hbel.size
    by_cases hlt : i < bs.length
    · obtain ⟨g, o, cap, hcut, hcap, hg, hc⟩ := HH.out.pos (by omega)
      cases hcut
      obtain ⟨c0, c1, c2, c3, c4⟩ := bin_cells hc i hlt
      have e0 := (hbel.cell (p := ⟨g, o + i * 5, none⟩) hg).trans c0
      have e1 := (hbel.cell (p := ⟨g, o + i * 5 + 1, none⟩) hg).trans c1
      have e2 := (hbel.cell (p := ⟨g, o + i * 5 + 2, none⟩) hg).trans c2
      have e3 := (hbel.cell (p := ⟨g, o + i * 5 + 3, none⟩) hg).trans c3
      have e4 := (hbel.cell (p := ⟨g, o + i * 5 + 4, none⟩) hg).trans c4
      have HT : Hid (bs.take (i + 1) = bs.take i ++ [bs[i]]) := by rw [Hid, List.take_succ_eq_append_getElem hlt]
      have htl : (bs.take i).length = i := by simp; omega
      generalize hb : bs[i] = b at *
      have HTL := Hid.mk2 htl
      clear hc c0 c1 c2 c3 c4 hb htl
      generalize hacc : bs.take i = acc at *
      clear hacc
      have hal : acc.length ≤ 100 := by rw [HTL.out]; omega
      go_wp2_with (at_builtin; refine wpList_append_own _ rfl (.tmp 12) (.tmp 17) 45 rfl w.heap.size 31 i0 (.agg #[.int .i64 0, .int .i64 0, .int .i64 0, .int .i64 0, .int .i64 0]) 5 40 Tryz.underlying45 hi0 hz0 hz1 hz2 rfl (by decide) _ _ _ rfl (hown.alloc _) ⟨wr.heap.size, 0, none⟩ 1 1 [.int .i64 b.id, .int .i64 b.zone, .int .i64 b.cap, .int .i64 b.used, .int .i64 b.has] rfl rfl (cell_five _ _ _ _ _ _ _) (one_bin b) (by unfold maxLen; omega) (by omega) (by simp; omega) ?_; intro v' w2 hown2 hgrow2 _)
      have R := own_step hbel hown2 hgrow2 hown
      clear hown2 hgrow2 hown
      go_roundw
      case rel => exact ⟨i + 1, by omega, by go_num, by rw [HT.out]; exact R.1, R.2⟩
      case measure => simp [intOf]; omega
    · obtain rfl : i = bs.length := by omega
      go_wp2
      go_ret
      exact ⟨hbel, _, rfl, by simpa using hown⟩
end Go.Proofs.YtjjbmbjmdgoofaaGreatDoor
