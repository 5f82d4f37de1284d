/-
  Bins in the order of their numbers: plain.
  The program's list of bins: find, Copy.
  The program's list of bins: with, without, replaced.
-/
import Derived.Test.YtffpmkgjnjdbaabGreatDoorMO
import Derived.BigQuiet
set_option linter.unusedVariables false
set_option linter.unusedSimpArgs false
namespace Go.Proofs.YtffpmkgjnjdbaabGreatDoor
open Go.RowKit

def cellB (b : Bn) : List Value := [.int .i64 b.id, .int .i64 b.zone, .int .i64 b.cap, .int .i64 b.used, .int .i64 b.has]
def cellsB (l : List Bn) : List Value := l.flatMap cellB
theorem cellsB_snoc (l : List Bn) (t : Bn) : cellsB (l ++ [t]) = cellsB l ++ cellB t := by simp [cellsB]
theorem cellsB_length (l : List Bn) : (cellsB l).length = l.length * 5 := by
  induction l with
  | nil => rfl
  | cons a r ih => simp only [cellsB, List.flatMap_cons, List.length_append, List.length_cons] at ih ⊢; rw [ih]; simp [cellB]; omega
theorem cellsB_at (l : List Bn) (i : Nat) (h : i < l.length) (j : Nat) (hj : j < 5) : (cellsB l)[i * 5 + j]? = (cellB l[i])[j]? := by
  induction l generalizing i with
  | nil => simp at h
  | cons a r ih =>
    cases i with
    | zero =>
      simp only [cellsB, List.flatMap_cons, Nat.zero_mul, Nat.zero_add, List.getElem_cons_zero]
      rw [List.getElem?_append_left (by simp [cellB]; omega)]
    | succ i =>
      have hi : i < r.length := by simpa using h
      have := ih i hi
      simp only [cellsB, List.flatMap_cons, List.getElem_cons_succ] at this ⊢
      rw [List.getElem?_append_right (by simp [cellB]; omega), ← this]
      congr 1
      simp [cellB]; omega
theorem cellsB_get (l : List Bn) (i : Nat) (h : i < l.length) :
    (cellsB l)[i * 5]? = some (.int .i64 l[i].id) ∧ (cellsB l)[i * 5 + 1]? = some (.int .i64 l[i].zone) ∧ (cellsB l)[i * 5 + 2]? = some (.int .i64 l[i].cap) ∧ (cellsB l)[i * 5 + 3]? = some (.int .i64 l[i].used) ∧ (cellsB l)[i * 5 + 4]? = some (.int .i64 l[i].has) :=
  ⟨cellsB_at l i h 0 (by omega), cellsB_at l i h 1 (by omega), cellsB_at l i h 2 (by omega), cellsB_at l i h 3 (by omega), cellsB_at l i h 4 (by omega)⟩
theorem cellsB_set (l : List Bn) (i : Nat) (h : i < l.length) (b : Bn) : cellsB (l.set i b) = (((((cellsB l).set (i * 5) (.int .i64 b.id)).set (i * 5 + 1) (.int .i64 b.zone)).set (i * 5 + 2) (.int .i64 b.cap)).set (i * 5 + 3) (.int .i64 b.used)).set (i * 5 + 4) (.int .i64 b.has) := by
  induction l generalizing i with
  | nil => simp at h
  | cons a r ih =>
    cases i with
    | zero => simp [cellsB, cellB]
    | succ i =>
      have hi : i < r.length := by simpa using h
      have e := ih i hi
      simp only [List.set_cons_succ, cellsB, List.flatMap_cons] at e ⊢
      rw [e]
      simp only [cellB, List.cons_append, List.nil_append]
      rw [show (i + 1) * 5 = i * 5 + 5 by omega]
      simp [List.set_cons_succ, show i * 5 + 5 + 1 = (i * 5 + 1) + 5 by omega, show i * 5 + 5 + 2 = (i * 5 + 2) + 5 by omega, show i * 5 + 5 + 3 = (i * 5 + 3) + 5 by omega, show i * 5 + 5 + 4 = (i * 5 + 4) + 5 by omega]

/-- The bin of that number. -/
def findB (l : List Bn) (id : Int) : Option Bn := l.find? fun b => b.id == id
def insB (l : List Bn) (b : Bn) : List Bn := l.takeWhile (fun x => decide (x.id < b.id)) ++ b :: l.dropWhile (fun x => decide (x.id < b.id))
def dropB (l : List Bn) (id : Int) : List Bn := l.filter fun b => b.id != id
def replB (l : List Bn) (b : Bn) : List Bn := l.map fun x => if x.id = b.id then b else x
/-- In the order of their numbers, all of them bins. -/
structure Shelf (l : List Bn) : Prop where
  up : ∀ (i j : Nat) (hi : i < l.length) (hj : j < l.length), i < j → l[i].id < l[j].id
  ok : ∀ b ∈ l, b.Ok
theorem Shelf.nil : Shelf [] := ⟨fun i j hi => by simp at hi, by simp⟩
theorem findB_at {l : List Bn} (h : Shelf l) (i : Nat) (hi : i < l.length) : findB l l[i].id = some l[i] := by
  unfold findB
  rw [List.find?_eq_some_iff_getElem]
  refine ⟨by simp, i, hi, rfl, fun j hj => ?_⟩
  have := h.up j i (by omega) hi hj
  simp; omega
theorem findB_none {l : List Bn} {id : Int} (h : ∀ b ∈ l, b.id ≠ id) : findB l id = none := by
  unfold findB
  simp only [List.find?_eq_none, beq_iff_eq]
  exact h
theorem takeWhile_all {α : Type} (p : α → Bool) (l : List α) (k : Nat) (hk : k ≤ l.length) (h1 : ∀ (j : Nat) (hj : j < l.length), j < k → p l[j] = true) (h2 : ∀ h : k < l.length, p l[k] = false) : l.takeWhile p = l.take k ∧ l.dropWhile p = l.drop k := by
  induction l generalizing k with
  | nil => simp
  | cons a r ih =>
    cases k with
    | zero =>
      have := h2 (by simp)
      simp at this
      simp [this]
    | succ k =>
      have h0 := h1 0 (by simp) (by omega)
      simp at h0
      obtain ⟨e1, e2⟩ := ih k (by simpa using hk) (fun j hj hjk => by have := h1 (j + 1) (by simpa using hj) (by omega); simpa using this) (fun h => by have := h2 (by simpa using h); simpa using this)
      simp [h0, e1, e2]
theorem insB_at {l : List Bn} {b : Bn} (k : Nat) (hk : k ≤ l.length) (h1 : ∀ (j : Nat) (hj : j < l.length), j < k → l[j].id < b.id) (h2 : ∀ h : k < l.length, ¬ l[k].id < b.id) : insB l b = l.take k ++ b :: l.drop k := by
  obtain ⟨e1, e2⟩ := takeWhile_all (fun x : Bn => decide (x.id < b.id)) l k hk (fun j hj hjk => by simpa using h1 j hj hjk) (fun h => by simpa using h2 h)
  unfold insB
  rw [e1, e2]
theorem replB_at {l : List Bn} (h : Shelf l) (i : Nat) (hi : i < l.length) (b : Bn) (hb : b.id = l[i].id) : replB l b = l.set i b := by
  apply List.ext_getElem
  · simp [replB]
  · intro j h1 h2
    have hj : j < l.length := by simpa using h2
    simp only [replB, List.getElem_map, List.getElem_set]
    by_cases hij : i = j
    · subst hij; simp [hb]
    · rw [if_neg hij, if_neg]
      rcases Nat.lt_or_gt_of_ne hij with h3 | h3
      · have := h.up i j hi hj h3; omega
      · have := h.up j i hj hi h3; omega
theorem Shelf.set {l : List Bn} (h : Shelf l) (i : Nat) (hi : i < l.length) (b : Bn) (hb : b.id = l[i].id) (hok : b.Ok) : Shelf (l.set i b) := by
  have hid : ∀ (j : Nat) (hj : j < (l.set i b).length), ((l.set i b)[j]).id = (l[j]'(by simpa using hj)).id := by
    intro j hj
    rw [List.getElem_set]
    split
    · rename_i h; subst h; exact hb
    · rfl
  refine ⟨fun j k hj hk hjk => ?_, fun x hx => ?_⟩
  · rw [hid j hj, hid k hk]
    exact h.up j k (by simpa using hj) (by simpa using hk) hjk
  · rcases List.mem_or_eq_of_mem_set hx with h1 | rfl
    · exact h.ok x h1
    · exact hok
theorem Shelf.snoc {l : List Bn} (h : Shelf l) (b : Bn) (hb : ∀ x ∈ l, x.id < b.id) (hok : b.Ok) : Shelf (l ++ [b]) := by
  refine ⟨fun i j hi hj hij => ?_, fun x hx => ?_⟩
  · simp at hi hj
    by_cases hjl : j < l.length
    · rw [List.getElem_append_left (by omega), List.getElem_append_left hjl]
      exact h.up i j (by omega) hjl hij
    · rw [List.getElem_append_left (by omega), List.getElem_append_right (by omega)]
      simp
      exact hb _ (List.getElem_mem _)
  · rcases List.mem_append.1 hx with h1 | h1
    · exact h.ok x h1
    · simp at h1; subst h1; exact hok
theorem Shelf.drop {l : List Bn} (h : Shelf l) (k : Nat) : Shelf (l.drop k) := by
  refine ⟨fun i j hi hj hij => ?_, fun x hx => h.ok x (List.mem_of_mem_drop hx)⟩
  simp at hi hj
  rw [List.getElem_drop, List.getElem_drop]
  exact h.up _ _ (by omega) (by omega) (by omega)
end Go.Proofs.YtffpmkgjnjdbaabGreatDoor

set_option linter.unusedVariables false
set_option linter.unusedSimpArgs false
namespace Go.Proofs.YtffpmkgjnjdbaabGreatDoor
open Go.RowKit

theorem Tryz.infoBin : (Tryz.prog.info? 25).map (fun i => (i.zero, i.size, i.bytes)) = some (some (.agg #[.int .i64 0, .int .i64 0, .int .i64 0, .int .i64 0, .int .i64 0]), 5, 40) := by kernel_rfl
theorem one_bin (b : Bn) : ∀ u ∈ [Value.int .i64 b.id, .int .i64 b.zone, .int .i64 b.cap, .int .i64 b.used, .int .i64 b.has], u.oneCell' = true := by
  intro u hu
  simp at hu
  rcases hu with rfl | rfl | rfl | rfl | rfl <;> rfl
theorem cell_five (w : World) (x y z t u : Value) (e : TypeId) : ∀ j v, [x, y, z, t, u][j]? = some v → (w.alloc (.cells #[x, y, z, t, u] e)).cell? ((⟨w.heap.size, 0, none⟩ : Addr).add j) = some v := by
  intro j v hj
  match j, hj with
  | 0, hj => simp at hj; subst hj; simp [Addr.add]
  | 1, hj => simp at hj; subst hj; simp [Addr.add]
  | 2, hj => simp at hj; subst hj; simp [Addr.add]
  | 3, hj => simp at hj; subst hj; simp [Addr.add]
  | 4, hj => simp at hj; subst hj; simp [Addr.add]
/-- The five cells of a bin of a list. -/
theorem bin_cells {w : World} {bs : List Bn} {g o : Nat} (hc : ∀ j u, (cellsB bs)[j]? = some u → w.cell? ⟨g, o + j, none⟩ = some u) (i : Nat) (hi : i < bs.length) :
    w.cell? ⟨g, o + i * 5, none⟩ = some (.int .i64 bs[i].id) ∧ w.cell? ⟨g, o + i * 5 + 1, none⟩ = some (.int .i64 bs[i].zone) ∧ w.cell? ⟨g, o + i * 5 + 2, none⟩ = some (.int .i64 bs[i].cap) ∧ w.cell? ⟨g, o + i * 5 + 3, none⟩ = some (.int .i64 bs[i].used) ∧ w.cell? ⟨g, o + i * 5 + 4, none⟩ = some (.int .i64 bs[i].has) := by
  obtain ⟨h0, h1, h2, h3, h4⟩ := cellsB_get bs i hi
  exact ⟨hc _ _ h0, hc _ _ h1, hc _ _ h2, hc _ _ h3, hc _ _ h4⟩
theorem findB_step {l : List Bn} {id : Int} (i : Nat) (hi : i < l.length) (h1 : ∀ j (hj : j < i) (hl : j < l.length), l[j].id ≠ id) (h2 : l[i].id = id) : findB l id = some l[i] := by
  unfold findB
  rw [List.find?_eq_some_iff_getElem]
  exact ⟨by simpa using h2, i, hi, rfl, fun j hj => by simpa using h1 j hj (by omega)⟩
theorem findB_end {l : List Bn} {id : Int} (h1 : ∀ j (hl : j < l.length), l[j].id ≠ id) : findB l id = none := by
  unfold findB
  simp only [List.find?_eq_none, beq_iff_eq]
  intro x hx
  obtain ⟨j, hj, rfl⟩ := List.getElem_of_mem hx
  exact h1 j hj
def zeroB : Bn := ⟨0, 0, 0, 0, 0⟩
set_option maxHeartbeats 1000000 in
theorem find_any (bs : List Bn) (id : Int) (v : Value) (w : World) (h : Reads w v bs.length (cellsB bs)) (hl : bs.length ≤ 100) :
    Calls Tryz.prog 80 #[v, .int .i64 id] w fun e w' => Below w.heap.size w w' ∧ ((∃ b, findB bs id = some b ∧ e = .returned (.tuple #[bnA b, .bool true])) ∨ (findB bs id = none ∧ e = .returned (.tuple #[bnA zeroB, .bool false]))) := by
  obtain ⟨a, c, rfl⟩ := h.shape
  have HH := Hid.mk2 h
  have HN := Hid.mk2 (Blk.new w #[.int .i64 0, .int .i64 0, .int .i64 0, .int .i64 0, .int .i64 0] 25)
  clear h
  go_enter Tryz.func80, Tryz.ntmps80
  go_wp2
  go_loop [6] (fun vi => ∃ i : Nat, i ≤ bs.length ∧ vi = .int .i64 i ∧ ∀ j (hj : j < i) (hl : j < bs.length), bs[j].id ≠ id) (fun i => bs.length - (intOf i).toNat)
  case atStart => exact ⟨0, Nat.zero_le _, rfl, fun j hj => by omega⟩
  case round =>
    obtain ⟨i, hi, rfl, hall⟩ := hrel
    have HA := Hid.mk2 hall
    clear hall
    by_cases hlt : i < bs.length
    · obtain ⟨g, o, cap, hcut, hcap, hg, hc⟩ := HH.out.pos (by omega)
      cases hcut
      obtain ⟨c0, c1, c2, c3, c4⟩ := bin_cells hc i hlt
      have e0 := ((box3 w (.cells #[.int .i64 0, .int .i64 0, .int .i64 0, .int .i64 0, .int .i64 0] 25)).cell (p := ⟨g, o + i * 5, none⟩) hg).trans c0
      have e1 := ((box3 w (.cells #[.int .i64 0, .int .i64 0, .int .i64 0, .int .i64 0, .int .i64 0] 25)).cell (p := ⟨g, o + i * 5 + 1, none⟩) hg).trans c1
      have e2 := ((box3 w (.cells #[.int .i64 0, .int .i64 0, .int .i64 0, .int .i64 0, .int .i64 0] 25)).cell (p := ⟨g, o + i * 5 + 2, none⟩) hg).trans c2
      have e3 := ((box3 w (.cells #[.int .i64 0, .int .i64 0, .int .i64 0, .int .i64 0, .int .i64 0] 25)).cell (p := ⟨g, o + i * 5 + 3, none⟩) hg).trans c3
      have e4 := ((box3 w (.cells #[.int .i64 0, .int .i64 0, .int .i64 0, .int .i64 0, .int .i64 0] 25)).cell (p := ⟨g, o + i * 5 + 4, none⟩) hg).trans c4
      generalize hb : bs[i] = b at *
      have HBE := Hid.mk2 hb
      clear hc c0 c1 c2 c3 c4 hb
      by_cases heq : b.id = id
      · have heq' : (b.id == id) = true := by simpa using heq
        have HE := Hid.mk2 heq
        clear heq
        go_wp2
        refine bodyPost_ret (v := .tuple #[.agg #[.int .i64 b.id, .int .i64 b.zone, .int .i64 b.cap, .int .i64 b.used, .int .i64 b.has], .bool true]) (by simp [results, Tryz.results80, go_sem]) rfl ⟨?_, .inl ⟨b, by rw [findB_step i hlt HA.out (by rw [HBE.out]; exact HE.out), HBE.out], rfl⟩⟩
        exact box3 w _
      · have heq' : (b.id == id) = false := by simpa using heq
        have HE := Hid.mk2 heq
        clear heq
        go_wp2
        go_round
        case rel =>
          refine ⟨i + 1, by omega, by go_num, fun j hj hl => ?_⟩
          by_cases hji : j < i
          · exact HA.out j hji hl
          · have : j = i := by omega
            subst this
            rw [HBE.out]
            exact HE.out
        case measure => simp [intOf]; omega
    · go_wp2
      refine bodyPost_ret (v := .tuple #[.agg #[.int .i64 0, .int .i64 0, .int .i64 0, .int .i64 0, .int .i64 0], .bool false]) (by simp [results, Tryz.results80, go_sem]) rfl ⟨?_, .inr ⟨findB_end (fun j hl => HA.out j (by omega) hl), rfl⟩⟩
      exact box3 w _
/-- One more bin behind a list of one's own. -/
theorem own_step {w wr w2 : World} {acc : List Bn} {v v' : Value} {b : Bn} {e : TypeId} {o : Obj} (hbel : Below w.heap.size w wr)
    (hown2 : w2.ownsRow w.heap.size e 5 v' (acc.length + 1) (cellsB acc ++ [.int .i64 b.id, .int .i64 b.zone, .int .i64 b.cap, .int .i64 b.used, .int .i64 b.has])) (hg : (wr.alloc o).grownBy w2 v.ownBlock) (hown1 : wr.ownsRow w.heap.size e 5 v acc.length (cellsB acc)) :
    w2.ownsRow w.heap.size e 5 v' (acc ++ [b]).length (cellsB (acc ++ [b])) ∧ Below w.heap.size w w2 := by
  have hs1 := hbel.size
  refine ⟨?_, ?_⟩
  · rw [cellsB_snoc]
    simp only [cellB, List.length_append, List.length_cons, List.length_nil]
    exact hown2
  · exact (hbel.alloc (by omega) o).grown hg (by simp; omega) (fun k hk => (hown1.lt k hk).1)
set_option maxHeartbeats 1000000 in
theorem Copy_any (bs : List Bn) (v : Value) (w : World) (h : Reads w v bs.length (cellsB bs)) (hl : bs.length ≤ 100) :
    Calls Tryz.prog 54 #[v] w fun e w' => Below w.heap.size w w' ∧ ∃ v', e = .returned v' ∧ w'.ownsRow w.heap.size 25 5 v' bs.length (cellsB bs) := by
  obtain ⟨i0, hi0, hz0, hz1, hz2⟩ := info_parts Tryz.infoBin
  obtain ⟨a, c, rfl⟩ := h.shape
  have HH := Hid.mk2 h
  clear h
  go_enter Tryz.func54, Tryz.ntmps54
  go_wp2
  go_loopw [3, 4] (fun v vi wr => ∃ i : Nat, i ≤ bs.length ∧ vi = .int .i64 i ∧ wr.ownsRow w.heap.size 25 5 v (bs.take i).length (cellsB (bs.take i)) ∧ Below w.heap.size w wr) (fun _ i _ => bs.length - (intOf i).toNat)
  case atStart => exact ⟨0, Nat.zero_le _, rfl, by simpa [cellsB] using World.ownsRow_made w #[] 0 (Nat.le_refl _) (by unfold maxLen; omega) rfl, (Below.refl _ _).alloc (Nat.le_refl _) _⟩
  case round =>
    obtain ⟨i, hi, rfl, hown, hbel⟩ := hrel
    have hbs := hbel.size
    by_cases hlt : i < bs.length
    · obtain ⟨g, o, cap, hcut, hcap, hg, hc⟩ := HH.out.pos (by omega)
      cases hcut
      obtain ⟨c0, c1, c2, c3, c4⟩ := bin_cells hc i hlt
      have e0 := (hbel.cell (p := ⟨g, o + i * 5, none⟩) hg).trans c0
      have e1 := (hbel.cell (p := ⟨g, o + i * 5 + 1, none⟩) hg).trans c1
      have e2 := (hbel.cell (p := ⟨g, o + i * 5 + 2, none⟩) hg).trans c2
      have e3 := (hbel.cell (p := ⟨g, o + i * 5 + 3, none⟩) hg).trans c3
      have e4 := (hbel.cell (p := ⟨g, o + i * 5 + 4, none⟩) hg).trans c4
      have HT : Hid (bs.take (i + 1) = bs.take i ++ [bs[i]]) := by rw [Hid, List.take_succ_eq_append_getElem hlt]
      have htl : (bs.take i).length = i := by simp; omega
      generalize hb : bs[i] = b at *
      have HTL := Hid.mk2 htl
      clear hc c0 c1 c2 c3 c4 hb htl
      generalize hacc : bs.take i = acc at *
      clear hacc
      have hal : acc.length ≤ 100 := by rw [HTL.out]; omega
      go_wp2_with (at_builtin; refine wpList_append_own _ rfl (.tmp 12) (.tmp 17) 45 rfl w.heap.size 25 i0 (.agg #[.int .i64 0, .int .i64 0, .int .i64 0, .int .i64 0, .int .i64 0]) 5 40 Tryz.underlying45 hi0 hz0 hz1 hz2 rfl (by decide) _ _ _ rfl (hown.alloc _) ⟨wr.heap.size, 0, none⟩ 1 1 [.int .i64 b.id, .int .i64 b.zone, .int .i64 b.cap, .int .i64 b.used, .int .i64 b.has] rfl rfl (cell_five _ _ _ _ _ _ _) (one_bin b) (by unfold maxLen; omega) (by omega) (by simp; omega) ?_; intro v' w2 hown2 hgrow2 _)
      have R := own_step hbel hown2 hgrow2 hown
      clear hown2 hgrow2 hown
      go_roundw
      case rel => exact ⟨i + 1, by omega, by go_num, by rw [HT.out]; exact R.1, R.2⟩
      case measure => simp [intOf]; omega
    · obtain rfl : i = bs.length := by omega
      go_wp2
      go_ret
      exact ⟨hbel, _, rfl, by simpa using hown⟩
end Go.Proofs.YtffpmkgjnjdbaabGreatDoor

set_option linter.unusedVariables false
set_option linter.unusedSimpArgs false
namespace Go.Proofs.YtffpmkgjnjdbaabGreatDoor
open Go.RowKit

theorem own_low {w : World} {base base' : Nat} {e : TypeId} {s n : Nat} {v : Value} {xs : List Value} (h : w.ownsRow base e s v n xs) (hb : base' ≤ base) : w.ownsRow base' e s v n xs := by
  refine ⟨h.1, ?_⟩
  rcases h.2 with hn | ⟨g, cap, cur, rfl, hbg, r⟩
  · exact .inl hn
  · exact .inr ⟨g, cap, cur, rfl, by omega, r⟩
theorem own_drewN {w : World} {base : Nat} {e : TypeId} {s n : Nat} {v : Value} {xs : List Value} (h : w.ownsRow base e s v n xs) (k : Nat) : (w.drewN k).ownsRow base e s v n xs := h
theorem own_setB {w : World} {base : Nat} {e : TypeId} {s n g cap : Nat} {xs : List Value} (h : w.ownsRow base e s (.slice (some ⟨g, 0, none⟩) n cap) n xs) (k : Nat) (u : Value) : (w.setCell ⟨g, k, none⟩ u).ownsRow base e s (.slice (some ⟨g, 0, none⟩) n cap) n (xs.set k u) := by
  refine ⟨by rw [List.length_set]; exact h.1, ?_⟩
  rcases h.2 with ⟨hv, _⟩ | ⟨g', cap', cur, hv, hbg, hh, hn, hm, hs, ht⟩
  · cases hv
  · cases hv
    refine .inr ⟨g, cap, cur.setIfInBounds k u, rfl, hbg, Blk.set (t := e) hh k u, hn, hm, by simpa using hs, ?_⟩
    rw [Array.toList_setIfInBounds, List.take_set, ht]
theorem own_set5 {w : World} {base : Nat} {e : TypeId} {n g cap : Nat} {l : List Bn} (h : w.ownsRow base e 5 (.slice (some ⟨g, 0, none⟩) n cap) n (cellsB l)) (i : Nat) (hi : i < l.length) (b : Bn) :
    (((((w.setCell ⟨g, i * 5, none⟩ (.int .i64 b.id)).setCell ⟨g, i * 5 + 1, none⟩ (.int .i64 b.zone)).setCell ⟨g, i * 5 + 2, none⟩ (.int .i64 b.cap)).setCell ⟨g, i * 5 + 3, none⟩ (.int .i64 b.used)).setCell ⟨g, i * 5 + 4, none⟩ (.int .i64 b.has)).ownsRow base e 5 (.slice (some ⟨g, 0, none⟩) n cap) n (cellsB (l.set i b)) := by
  rw [cellsB_set l i hi b]
  exact own_setB (own_setB (own_setB (own_setB (own_setB h _ _) _ _) _ _) _ _) _ _
theorem below_set5 {B : Nat} {w wr : World} (h : Below B w wr) (g i : Nat) (hg : B ≤ g) (b : Bn) :
    Below B w (((((wr.setCell ⟨g, i * 5, none⟩ (.int .i64 b.id)).setCell ⟨g, i * 5 + 1, none⟩ (.int .i64 b.zone)).setCell ⟨g, i * 5 + 2, none⟩ (.int .i64 b.cap)).setCell ⟨g, i * 5 + 3, none⟩ (.int .i64 b.used)).setCell ⟨g, i * 5 + 4, none⟩ (.int .i64 b.has)) :=
  ((((h.setCell (p := ⟨g, i * 5, none⟩) hg _).setCell (p := ⟨g, i * 5 + 1, none⟩) hg _).setCell (p := ⟨g, i * 5 + 2, none⟩) hg _).setCell (p := ⟨g, i * 5 + 3, none⟩) hg _).setCell (p := ⟨g, i * 5 + 4, none⟩) hg _
theorem own_cells {w : World} {base : Nat} {e : TypeId} {v : Value} {l : List Bn} (h : w.ownsRow base e 5 v l.length (cellsB l)) (i : Nat) (hi : i < l.length) :
    ∃ g cap, v = .slice (some ⟨g, 0, none⟩) l.length cap ∧ base ≤ g ∧ g < w.heap.size ∧ l.length ≤ cap ∧ (∀ k, w.frozen? ⟨g, k, none⟩ = false) ∧ w.cell? ⟨g, i * 5, none⟩ = some (.int .i64 l[i].id) ∧ w.cell? ⟨g, i * 5 + 1, none⟩ = some (.int .i64 l[i].zone) ∧ w.cell? ⟨g, i * 5 + 2, none⟩ = some (.int .i64 l[i].cap) ∧ w.cell? ⟨g, i * 5 + 3, none⟩ = some (.int .i64 l[i].used) ∧ w.cell? ⟨g, i * 5 + 4, none⟩ = some (.int .i64 l[i].has) := by
  rcases h.2 with ⟨_, hv⟩ | ⟨g, cap, cur, hv, hbg, hh, hn, hm, hs, ht⟩
  · omega
  · have hb : Blk w g cur e := hh
    have hc : ∀ j u, (cellsB l)[j]? = some u → w.cell? ⟨g, 0 + j, none⟩ = some u := by
      intro j u hj
      rw [Nat.zero_add, hb.cell]
      rw [← ht, List.getElem?_take] at hj
      split at hj
      · simpa using hj
      · cases hj
    have := bin_cells hc i hi
    simp only [Nat.zero_add] at this
    exact ⟨g, cap, hv, hbg, hb.lt, hn, fun k => hb.free k, this⟩
theorem own_empty (w : World) : (w.alloc (.cells #[] 25)).ownsRow w.heap.size 25 5 (.slice (some ⟨w.heap.size, 0, none⟩) 0 0) 0 [] := World.ownsRow_made w #[] 0 (Nat.le_refl _) (by unfold maxLen; omega) rfl
theorem take_next {l : List Bn} {i : Nat} (h : i < l.length) : l.take (i + 1) = l.take i ++ [l[i]] := by rw [List.take_succ_eq_append_getElem h]
theorem drop_next {l : List Bn} {i : Nat} (h : i < l.length) : l.drop i = l[i] :: l.drop (i + 1) := List.drop_eq_getElem_cons h

set_option maxHeartbeats 1000000 in
theorem without_any (bs : List Bn) (id : Int) (v : Value) (w : World) (h : Reads w v bs.length (cellsB bs)) (hl : bs.length ≤ 100) :
    Calls Tryz.prog 81 #[v, .int .i64 id] w fun e w' => Below w.heap.size w w' ∧ ∃ v', e = .returned v' ∧ w'.ownsRow w.heap.size 25 5 v' (dropB bs id).length (cellsB (dropB bs id)) := by
  obtain ⟨i0, hi0, hz0, hz1, hz2⟩ := info_parts Tryz.infoBin
  obtain ⟨a, c, rfl⟩ := h.shape
  have HH := Hid.mk2 h
  clear h
  go_enter Tryz.func81, Tryz.ntmps81
  go_wp2
  go_loopw [5, 6] (fun v vi wr => ∃ (i : Nat) (acc : List Bn), i ≤ bs.length ∧ vi = .int .i64 i ∧ acc = dropB (bs.take i) id ∧ acc.length ≤ i ∧ wr.ownsRow w.heap.size 25 5 v acc.length (cellsB acc) ∧ Below w.heap.size w wr) (fun _ i _ => bs.length - (intOf i).toNat)
  case atStart => exact ⟨0, [], Nat.zero_le _, rfl, rfl, Nat.le_refl _, by simpa [cellsB] using World.ownsRow_made w #[] 0 (Nat.le_refl _) (by unfold maxLen; omega) rfl, (Below.refl _ _).alloc (Nat.le_refl _) _⟩
  case round =>
    obtain ⟨i, acc, hi, rfl, hacc, hal, hown, hbel⟩ := hrel
    have HA := Hid.mk2 hacc
    clear hacc
    have hbs := hbel.size
    by_cases hlt : i < bs.length
    · obtain ⟨g, o, cap, hcut, hcap, hg, hc⟩ := HH.out.pos (by omega)
      cases hcut
      obtain ⟨c0, c1, c2, c3, c4⟩ := bin_cells hc i hlt
      have e0 := (hbel.cell (p := ⟨g, o + i * 5, none⟩) hg).trans c0
      have e1 := (hbel.cell (p := ⟨g, o + i * 5 + 1, none⟩) hg).trans c1
      have e2 := (hbel.cell (p := ⟨g, o + i * 5 + 2, none⟩) hg).trans c2
      have e3 := (hbel.cell (p := ⟨g, o + i * 5 + 3, none⟩) hg).trans c3
      have e4 := (hbel.cell (p := ⟨g, o + i * 5 + 4, none⟩) hg).trans c4
      have HT : Hid (dropB (bs.take (i + 1)) id = dropB (bs.take i) id ++ dropB [bs[i]] id) := by rw [Hid]; unfold dropB; rw [take_next hlt, List.filter_append]
      generalize hb : bs[i] = b at *
      clear hc c0 c1 c2 c3 c4 hb
      by_cases heq : b.id = id
      · have heq' : (b.id != id) = false := by simpa using heq
        have HE : Hid (dropB [b] id = []) := by simp [Hid, dropB, heq]
        clear heq
        go_wp2
        go_roundw
        case rel => exact ⟨i + 1, acc, by omega, by go_num, by rw [HT.out, HE.out, ← HA.out]; simp, by omega, hown, hbel⟩
        case measure => simp [intOf]; omega
      · have heq' : (b.id != id) = true := by simpa using heq
        have HE : Hid (dropB [b] id = [b]) := by simp [Hid, dropB, heq]
        clear heq
        go_wp2_with (at_builtin; refine wpList_append_own _ rfl (.tmp 21) (.tmp 26) 45 rfl w.heap.size 25 i0 (.agg #[.int .i64 0, .int .i64 0, .int .i64 0, .int .i64 0, .int .i64 0]) 5 40 Tryz.underlying45 hi0 hz0 hz1 hz2 rfl (by decide) _ _ _ rfl (hown.alloc _) ⟨wr.heap.size, 0, none⟩ 1 1 [.int .i64 b.id, .int .i64 b.zone, .int .i64 b.cap, .int .i64 b.used, .int .i64 b.has] rfl rfl (cell_five _ _ _ _ _ _ _) (one_bin b) (by unfold maxLen; omega) (by omega) (by simp; omega) ?_; intro v' w2 hown2 hgrow2 _)
        have R := own_step hbel hown2 hgrow2 hown
        clear hown2 hgrow2 hown
        go_roundw
        case rel => exact ⟨i + 1, acc ++ [b], by omega, by go_num, by rw [HT.out, HE.out, ← HA.out], by simp; omega, R.1, R.2⟩
        case measure => simp [intOf]; omega
    · obtain rfl : i = bs.length := by omega
      go_wp2
      go_ret
      refine ⟨hbel, _, rfl, ?_⟩
      have := HA.out
      rw [List.take_length] at this
      rw [← this]
      exact hown

set_option maxHeartbeats 2000000 in
theorem with_any (bs : List Bn) (b : Bn) (v : Value) (w : World) (h : Reads w v bs.length (cellsB bs)) (hl : bs.length ≤ 100) :
    Calls Tryz.prog 84 #[v, bnA b] w fun e w' => Below w.heap.size w w' ∧ ∃ v', e = .returned v' ∧ w'.ownsRow w.heap.size 25 5 v' (insB bs b).length (cellsB (insB bs b)) := by
  obtain ⟨i0, hi0, hz0, hz1, hz2⟩ := info_parts Tryz.infoBin
  obtain ⟨a, c, rfl⟩ := h.shape
  have HH := Hid.mk2 (h.alloc (.cells #[.int .i64 b.id, .int .i64 b.zone, .int .i64 b.cap, .int .i64 b.used, .int .i64 b.has] 25))
  have HN := Hid.mk2 (Blk.new w #[.int .i64 b.id, .int .i64 b.zone, .int .i64 b.cap, .int .i64 b.used, .int .i64 b.has] 25)
  have HW := Hid.mk2 (box3 w (.cells #[.int .i64 b.id, .int .i64 b.zone, .int .i64 b.cap, .int .i64 b.used, .int .i64 b.has] 25))
  clear h
  unfold bnA
  go_enter Tryz.func84, Tryz.ntmps84
  go_wp2
  have hz : (w.alloc (.cells #[.int .i64 b.id, .int .i64 b.zone, .int .i64 b.cap, .int .i64 b.used, .int .i64 b.has] 25)).heap.size = w.heap.size + 1 := by simp
  generalize hw1 : w.alloc (.cells #[.int .i64 b.id, .int .i64 b.zone, .int .i64 b.cap, .int .i64 b.used, .int .i64 b.has] 25) = w1 at *
  have HW1 := Hid.mk2 hw1
  clear hw1
  have hbl := HN.out.lt
  go_loopw [5, 6] (fun v vi wr => ∃ (i : Nat), i ≤ bs.length ∧ vi = .int .i64 i ∧ wr.ownsRow w1.heap.size 25 5 v (bs.take i).length (cellsB (bs.take i)) ∧ Below w1.heap.size w1 wr ∧ ∀ j (hj : j < bs.length), j < i → bs[j].id < b.id) (fun _ i _ => bs.length - (intOf i).toNat)
  case atStart => exact ⟨0, Nat.zero_le _, rfl, (by have h := own_empty w1; rw [hz] at h ⊢; exact h), (Below.refl _ _).alloc (Nat.le_refl _) _, fun j _ hj => by omega⟩
  case round =>
    obtain ⟨i, hi, rfl, hown, hbel, hall⟩ := hrel
    have HA := Hid.mk2 hall
    clear hall
    have hbs := hbel.size
    have HB := Hid.mk2 (HN.out.below hbel hbl)
    have d0 := HB.out.cell 0
    have d1 := HB.out.cell 1
    have d2 := HB.out.cell 2
    have d3 := HB.out.cell 3
    have d4 := HB.out.cell 4
    have htl : (bs.take i).length = i := by simp; omega
    by_cases hA : ∃ h : i < bs.length, bs[i].id < b.id
    · obtain ⟨hlt, hid⟩ := hA
      obtain ⟨g, o, cap, hcut, hcap, hg, hc⟩ := HH.out.pos (by omega)
      cases hcut
      obtain ⟨c0, c1, c2, c3, c4⟩ := bin_cells hc i hlt
      have e0 := (hbel.cell (p := ⟨g, o + i * 5, none⟩) hg).trans c0
      have e1 := (hbel.cell (p := ⟨g, o + i * 5 + 1, none⟩) hg).trans c1
      have e2 := (hbel.cell (p := ⟨g, o + i * 5 + 2, none⟩) hg).trans c2
      have e3 := (hbel.cell (p := ⟨g, o + i * 5 + 3, none⟩) hg).trans c3
      have e4 := (hbel.cell (p := ⟨g, o + i * 5 + 4, none⟩) hg).trans c4
      have HT : Hid (bs.take (i + 1) = bs.take i ++ [bs[i]]) := by rw [Hid, take_next hlt]
      have HD : Hid (∀ j (hj : j < bs.length), j < i + 1 → bs[j].id < b.id) := by
        intro j hj hji
        by_cases h : j < i
        · exact HA.out j hj h
        · have : j = i := by omega
          subst this
          exact hid
      generalize hx : bs[i] = x at *
      have hd : decide (x.id < b.id) = true := by simpa using hid
      have hd2 : decide ((i : Int) < (bs.length : Int)) = true := by simp; omega
      generalize hacc : bs.take i = acc at *
      have HTL := Hid.mk2 htl
      clear hc c0 c1 c2 c3 c4 hx hid hacc htl
      have hal : acc.length ≤ 100 := by rw [HTL.out]; omega
      go_wp2
      go_quiet (fail)
      go_wp2_with (at_builtin; refine wpList_append_own _ rfl (.tmp 22) (.tmp 27) 45 rfl w1.heap.size 25 i0 (.agg #[.int .i64 0, .int .i64 0, .int .i64 0, .int .i64 0, .int .i64 0]) 5 40 Tryz.underlying45 hi0 hz0 hz1 hz2 rfl (by decide) _ _ _ rfl ((own_drewN hown _).alloc _) ⟨wr.heap.size, 0, none⟩ 1 1 [.int .i64 x.id, .int .i64 x.zone, .int .i64 x.cap, .int .i64 x.used, .int .i64 x.has] rfl rfl (cell_five _ _ _ _ _ _ _) (one_bin x) (by unfold maxLen; omega) (by omega) (by simp; omega) ?_; intro v' w2 hown2 hgrow2 _)
      have R := own_step (below_drewN hbel _) hown2 hgrow2 (own_drewN hown _)
      clear hown2 hgrow2 hown
      go_roundw
      case rel => exact ⟨i + 1, by omega, by go_num, by rw [HT.out]; exact R.1, R.2, HD.out⟩
      case measure => simp [intOf]; omega
    · have HI : Hid (insB bs b = bs.take i ++ [b] ++ bs.drop i) := by
        rw [Hid, insB_at i hi HA.out (fun h h2 => hA ⟨h, h2⟩)]; simp
      have hcase : (∃ g o cap x, (a = some ⟨g, o, none⟩ ∧ c = cap) ∧ i < bs.length ∧ bs.length ≤ cap ∧ wr.cell? ⟨g, o + i * 5, none⟩ = some (.int .i64 x) ∧ decide (x < b.id) = false) ∨ i = bs.length := by
        by_cases hlt : i < bs.length
        · obtain ⟨g, o, cap, hcut, hcap, hg, hc⟩ := HH.out.pos (by omega)
          cases hcut
          exact .inl ⟨g, o, _, bs[i].id, ⟨rfl, rfl⟩, hlt, hcap, (hbel.cell (p := ⟨g, o + i * 5, none⟩) hg).trans (bin_cells hc i hlt).1, by simpa using fun h => hA ⟨hlt, h⟩⟩
        · exact .inr (by omega)
      clear hA
      generalize hacc : bs.take i = acc at *
      have HTL := Hid.mk2 htl
      clear hacc htl
      have hal : acc.length ≤ 100 := by rw [HTL.out]; omega
      rcases hcase with ⟨g, o, cap, x, ⟨rfl, rfl⟩, hlt, hcap, e0, hd⟩ | hie
      · have hd2 : decide ((i : Int) < (bs.length : Int)) = true := by simp; omega
        go_wp2
        go_quiet (fail)
        go_wp2_with (at_builtin; refine wpList_append_own _ rfl (.tmp 31) (.tmp 33) 45 rfl w1.heap.size 25 i0 (.agg #[.int .i64 0, .int .i64 0, .int .i64 0, .int .i64 0, .int .i64 0]) 5 40 Tryz.underlying45 hi0 hz0 hz1 hz2 rfl (by decide) _ _ _ rfl ((own_drewN hown _).alloc _) ⟨wr.heap.size, 0, none⟩ 1 1 [.int .i64 b.id, .int .i64 b.zone, .int .i64 b.cap, .int .i64 b.used, .int .i64 b.has] rfl rfl (cell_five _ _ _ _ _ _ _) (one_bin b) (by unfold maxLen; omega) (by omega) (by simp; omega) ?_; intro v' w2 hown2 hgrow2 _)
        have R := own_step (below_drewN hbel _) hown2 hgrow2 (own_drewN hown _)
        clear hown2 hgrow2 hown
        have HR := Hid.mk2 R
        go_loopw [5, 6] (fun v vi wr => ∃ (i : Nat) (acc : List Bn), i ≤ bs.length ∧ vi = .int .i64 i ∧ insB bs b = acc ++ bs.drop i ∧ acc.length ≤ 1 + i ∧ wr.ownsRow w1.heap.size 25 5 v acc.length (cellsB acc) ∧ Below w1.heap.size w1 wr) (fun _ i _ => bs.length - (intOf i).toNat)
        case atStart => exact ⟨i, acc ++ [b], hi, rfl, HI.out, by simp [HTL.out]; omega, HR.out.1, HR.out.2⟩
        case round =>
          clear d0 d1 d2 d3 d4 HB hbel hbs HTL hal HI HR R
          obtain ⟨i, acc, hi, rfl, hins, hal, hown, hbel⟩ := hrel
          have HI := Hid.mk2 hins
          clear hins
          have hbs := hbel.size
          by_cases hlt : i < bs.length
          · obtain ⟨g, o, cap, hcut, hcap, hg, hc⟩ := HH.out.pos (by omega)
            cases hcut
            obtain ⟨c0, c1, c2, c3, c4⟩ := bin_cells hc i hlt
            have e0 := (hbel.cell (p := ⟨g, o + i * 5, none⟩) hg).trans c0
            have e1 := (hbel.cell (p := ⟨g, o + i * 5 + 1, none⟩) hg).trans c1
            have e2 := (hbel.cell (p := ⟨g, o + i * 5 + 2, none⟩) hg).trans c2
            have e3 := (hbel.cell (p := ⟨g, o + i * 5 + 3, none⟩) hg).trans c3
            have e4 := (hbel.cell (p := ⟨g, o + i * 5 + 4, none⟩) hg).trans c4
            have HT := Hid.mk2 (drop_next hlt)
            generalize hx : bs[i] = x at *
            clear hc c0 c1 c2 c3 c4 hx
            go_wp2_with (at_builtin; refine wpList_append_own _ rfl (.tmp 39) (.tmp 44) 45 rfl w1.heap.size 25 i0 (.agg #[.int .i64 0, .int .i64 0, .int .i64 0, .int .i64 0, .int .i64 0]) 5 40 Tryz.underlying45 hi0 hz0 hz1 hz2 rfl (by decide) _ _ _ rfl (hown.alloc _) ⟨wr.heap.size, 0, none⟩ 1 1 [.int .i64 x.id, .int .i64 x.zone, .int .i64 x.cap, .int .i64 x.used, .int .i64 x.has] rfl rfl (cell_five _ _ _ _ _ _ _) (one_bin x) (by unfold maxLen; omega) (by omega) (by simp; omega) ?_; intro v' w2 hown2 hgrow2 _)
            have R := own_step hbel hown2 hgrow2 hown
            clear hown2 hgrow2 hown
            go_roundw
            case rel => exact ⟨i + 1, acc ++ [x], by omega, by go_num, by rw [HI.out, HT.out]; simp, by simp; omega, R.1, R.2⟩
            case measure => simp [intOf]; omega
          · obtain rfl : i = bs.length := by omega
            go_wp2
            go_ret
            refine ⟨HW.out.trans (hbel.mono (by omega)), _, rfl, ?_⟩
            have := HI.out
            rw [List.drop_length, List.append_nil] at this
            rw [this]
            exact own_low hown (by omega)
      · have hd2 : decide ((i : Int) < (bs.length : Int)) = false := by simp; omega
        have hd3 : decide (i < bs.length) = false := by simp; omega
        clear hie
        go_wp2
        go_quiet (fail)
        go_wp2_with (at_builtin; refine wpList_append_own _ rfl (.tmp 31) (.tmp 33) 45 rfl w1.heap.size 25 i0 (.agg #[.int .i64 0, .int .i64 0, .int .i64 0, .int .i64 0, .int .i64 0]) 5 40 Tryz.underlying45 hi0 hz0 hz1 hz2 rfl (by decide) _ _ _ rfl ((own_drewN hown _).alloc _) ⟨wr.heap.size, 0, none⟩ 1 1 [.int .i64 b.id, .int .i64 b.zone, .int .i64 b.cap, .int .i64 b.used, .int .i64 b.has] rfl rfl (cell_five _ _ _ _ _ _ _) (one_bin b) (by unfold maxLen; omega) (by omega) (by simp; omega) ?_; intro v' w2 hown2 hgrow2 _)
        have R := own_step (below_drewN hbel _) hown2 hgrow2 (own_drewN hown _)
        clear hown2 hgrow2 hown
        have HR := Hid.mk2 R
        go_loopw [5, 6] (fun v vi wr => ∃ (i : Nat) (acc : List Bn), i ≤ bs.length ∧ vi = .int .i64 i ∧ insB bs b = acc ++ bs.drop i ∧ acc.length ≤ 1 + i ∧ wr.ownsRow w1.heap.size 25 5 v acc.length (cellsB acc) ∧ Below w1.heap.size w1 wr) (fun _ i _ => bs.length - (intOf i).toNat)
        case atStart => exact ⟨i, acc ++ [b], hi, rfl, HI.out, by simp [HTL.out]; omega, HR.out.1, HR.out.2⟩
        case round =>
          clear d0 d1 d2 d3 d4 HB hbel hbs HTL hal HI HR R
          obtain ⟨i, acc, hi, rfl, hins, hal, hown, hbel⟩ := hrel
          have HI := Hid.mk2 hins
          clear hins
          have hbs := hbel.size
          by_cases hlt : i < bs.length
          · obtain ⟨g, o, cap, hcut, hcap, hg, hc⟩ := HH.out.pos (by omega)
            cases hcut
            obtain ⟨c0, c1, c2, c3, c4⟩ := bin_cells hc i hlt
            have e0 := (hbel.cell (p := ⟨g, o + i * 5, none⟩) hg).trans c0
            have e1 := (hbel.cell (p := ⟨g, o + i * 5 + 1, none⟩) hg).trans c1
            have e2 := (hbel.cell (p := ⟨g, o + i * 5 + 2, none⟩) hg).trans c2
            have e3 := (hbel.cell (p := ⟨g, o + i * 5 + 3, none⟩) hg).trans c3
            have e4 := (hbel.cell (p := ⟨g, o + i * 5 + 4, none⟩) hg).trans c4
            have HT := Hid.mk2 (drop_next hlt)
            generalize hx : bs[i] = x at *
            clear hc c0 c1 c2 c3 c4 hx
            go_wp2_with (at_builtin; refine wpList_append_own _ rfl (.tmp 39) (.tmp 44) 45 rfl w1.heap.size 25 i0 (.agg #[.int .i64 0, .int .i64 0, .int .i64 0, .int .i64 0, .int .i64 0]) 5 40 Tryz.underlying45 hi0 hz0 hz1 hz2 rfl (by decide) _ _ _ rfl (hown.alloc _) ⟨wr.heap.size, 0, none⟩ 1 1 [.int .i64 x.id, .int .i64 x.zone, .int .i64 x.cap, .int .i64 x.used, .int .i64 x.has] rfl rfl (cell_five _ _ _ _ _ _ _) (one_bin x) (by unfold maxLen; omega) (by omega) (by simp; omega) ?_; intro v' w2 hown2 hgrow2 _)
            have R := own_step hbel hown2 hgrow2 hown
            clear hown2 hgrow2 hown
            go_roundw
            case rel => exact ⟨i + 1, acc ++ [x], by omega, by go_num, by rw [HI.out, HT.out]; simp, by simp; omega, R.1, R.2⟩
            case measure => simp [intOf]; omega
          · obtain rfl : i = bs.length := by omega
            go_wp2
            go_ret
            refine ⟨HW.out.trans (hbel.mono (by omega)), _, rfl, ?_⟩
            have := HI.out
            rw [List.drop_length, List.append_nil] at this
            rw [this]
            exact own_low hown (by omega)
end Go.Proofs.YtffpmkgjnjdbaabGreatDoor
