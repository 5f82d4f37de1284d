/-
  The small functions out of which images of known making are written: pick, op, past, Feed.next, numberOf.
  A store: Add, Remove, Put, Pick, Bins.
  Images of known making: numberOf, op, past, eight.
  An item and a bin out of raw numbers and bytes: item, bin, around.
-/
import Derived.Test.YtffpmkgjnjdbaabGreatDoorMO
import Derived.Test.YtffpmkgjnjdbaabGreatDoorMA
import Derived.Test.YtffpmkgjnjdbaabGreatDoorMQ
import Derived.Deep.RegionHeld3
import Derived.Laws.BytesString
import Derived.Laws.Cells
import Derived.Deep.RegionWith
set_option linter.unusedVariables false
set_option linter.unusedSimpArgs false
namespace Go.Proofs.YtffpmkgjnjdbaabGreatDoor
open Go.RowKit

set_option maxHeartbeats 400000 in
theorem pick_any (c n : Int) (hc : In64 c) (hn : 0 < n ∧ n ≤ 2000) (w : World) :
    Calls Tryz.prog 15 #[.int .i64 c, .int .i64 n] w fun e w' => (∃ r : Int, 0 ≤ r ∧ r < n ∧ e = .returned (.int .i64 r)) ∧ w' = w := by
  obtain ⟨h1, h2⟩ := hc
  obtain ⟨h3, h4⟩ := hn
  have en : (n == 0) = false := by simp; omega
  by_cases h : c < 0
  · have hm := Int.emod_nonneg (-(c + 1)) (b := n) (by omega)
    have hl := Int.emod_lt_of_pos (-(c + 1)) h3
    have ht : (-(c + 1)).tmod n = (-(c + 1)) % n := Int.tmod_eq_emod_of_nonneg (by omega)
    have HM := Hid.mk2 hm
    have HL := Hid.mk2 hl
    have HT := Hid.mk2 ht
    clear hm hl ht
    go_enter Tryz.func15, Tryz.ntmps15
    go_wp2
    all_goals go_ret
    have e1 : -((c + 1).tmod n) = (-(c + 1)) % n := by rw [← HT.out, Int.neg_tmod]
    exact ⟨⟨-((c + 1).tmod n), by rw [e1]; exact HM.out, by rw [e1]; exact HL.out, rfl⟩, rfl⟩
  · have hm := Int.emod_nonneg c (b := n) (by omega)
    have hl := Int.emod_lt_of_pos c h3
    have HM := Hid.mk2 hm
    have HL := Hid.mk2 hl
    clear hm hl
    go_enter Tryz.func15, Tryz.ntmps15
    go_wp2
    all_goals go_ret
    exact ⟨⟨c % n, HM.out, HL.out, rfl⟩, rfl⟩
theorem Blk.drewN {w : World} {b : Nat} {cs : Array Value} {t : TypeId} (h : Blk w b cs t) (n : Nat) : Blk (w.drewN n) b cs t := h
/-- What was there is as it was, but for one block. -/
structure But (fb : Nat) (w w' : World) : Prop where
  os : w'.os = w.os
  tape : w'.tape = w.tape
  output : w'.output = w.output
  size : w.heap.size ≤ w'.heap.size
  block : ∀ k, k ≠ fb → k < w.heap.size → w'.heap[k]? = w.heap[k]?
theorem But.refl (fb : Nat) (w : World) : But fb w w := ⟨rfl, rfl, rfl, Nat.le_refl _, fun _ _ _ => rfl⟩
theorem But.trans {fb : Nat} {w w1 w2 : World} (h : But fb w w1) (g : But fb w1 w2) : But fb w w2 :=
  ⟨g.os.trans h.os, g.tape.trans h.tape, g.output.trans h.output, Nat.le_trans h.size g.size, fun k h1 h2 => (g.block k h1 (Nat.lt_of_lt_of_le h2 h.size)).trans (h.block k h1 h2)⟩
theorem But.of {fb : Nat} {w w' : World} (h : Below w.heap.size w w') : But fb w w' := ⟨h.os, h.tape, h.output, h.size, fun k _ h2 => h.block k h2⟩
theorem But.below {fb B : Nat} {w w' : World} (h : But fb w w') (h1 : B ≤ fb) (h2 : B ≤ w.heap.size) : Below B w w' := ⟨h.os, h.tape, h.output, h.size, fun k hk => h.block k (by omega) (by omega)⟩
theorem Blk.but {w w' : World} {b fb : Nat} {cs : Array Value} {t : TypeId} (h : Blk w b cs t) (hb : But fb w w') (hne : b ≠ fb) : Blk w' b cs t := (hb.block b hne h.lt).trans h
theorem But.set {w : World} (fb i : Nat) (v : Value) (h : fb < w.heap.size) : But fb w (w.setCell ⟨fb, i, none⟩ v) := by
  have g := (Below.refl fb w).setCell (p := ⟨fb, i, none⟩) (Nat.le_refl _) v
  exact ⟨g.os, g.tape, g.output, g.size, fun k h1 _ => Below.heap_setCell _ _ _ _ h1⟩
/-- A feed of raw bytes in memory. -/
structure FeedAt (w : World) (fb : Nat) : Prop where
  ok : ∃ (s : ByteArray) (k : Nat), Blk w fb #[.string s, .int .i64 k] 31 ∧ k ≤ s.size ∧ s.size ≤ maxLen
theorem FeedAt.below {w w' : World} {fb : Nat} (h : FeedAt w fb) (hb : Below w.heap.size w w') : FeedAt w' fb := by
  obtain ⟨s, k, h1, h2⟩ := h.ok
  exact ⟨s, k, h1.below hb h1.lt, h2⟩
set_option maxHeartbeats 1000000 in
theorem next_any (n : Int) (hn : 0 < n ∧ n ≤ 2000) (fb : Nat) (w : World) (h : FeedAt w fb) :
    Calls Tryz.prog 36 #[.pointer (some ⟨fb, 0, none⟩), .int .i64 n] w fun e w' => (∃ r : Int, 0 ≤ r ∧ r < n ∧ e = .returned (.int .i64 r)) ∧ FeedAt w' fb ∧ But fb w w' := by
  obtain ⟨s, k, hb, hk, hs⟩ := h.ok
  have HB := Hid.mk2 hb
  have HFd := Hid.mk2 h
  have c0 := hb.cell 0
  have c1 := hb.cell 1
  have f1 := hb.free 1
  have hs' : (s.size : Int) ≤ 9223372036854775807 := by have h := hs; simp [maxLen] at h; omega
  obtain ⟨h3, h4⟩ := hn
  have en : (n == 0) = false := by simp; omega
  have HSm := Hid.mk2 hs
  clear h hb hs
  by_cases hlt : k < s.size
  · have hix := fun wx => run_index_nat (P := Tryz.prog) wx 9 s .i64 (k : Int) k Tryz.underlying9 rfl hlt
    obtain ⟨c, hc⟩ : ∃ c, c = s[k].toNat := ⟨_, rfl⟩
    have hc256 : c < 256 := by rw [hc]; exact UInt8.toNat_lt _
    rw [← hc] at hix
    have hm := Int.emod_nonneg (c : Int) (b := n) (by omega)
    have hl := Int.emod_lt_of_pos (c : Int) h3
    have HM := Hid.mk2 hm
    have HL := Hid.mk2 hl
    have dk : decide ((s.size : Int) ≤ (k : Int)) = false := by simp; omega
    clear hc hm hl
    go_enter Tryz.func36, Tryz.ntmps36
    go_wp2
    go_quiet (fail)
    go_wp2
    go_quiet (fail)
    go_wp2
    go_ret
    exact ⟨⟨_, HM.out, HL.out, rfl⟩, ⟨s, k + 1, (HB.out.drewN _).set 1 _, by omega, HSm.out⟩, (But.of (below_drewN (Below.refl _ w) _)).trans (But.set fb 1 _ HB.out.lt)⟩
  · have dk : decide ((s.size : Int) ≤ (k : Int)) = true := by simp; omega
    go_enter Tryz.func36, Tryz.ntmps36
    go_wp2
    go_quiet (fail)
    go_wp2
    go_ret
    exact ⟨⟨0, Int.le_refl _, h3, rfl⟩, ⟨s, k, HB.out.drewN _, hk, HSm.out⟩, But.of (below_drewN (Below.refl _ w) _)⟩
end Go.Proofs.YtffpmkgjnjdbaabGreatDoor

set_option linter.unusedVariables false
set_option linter.unusedSimpArgs false
namespace Go.Proofs.YtffpmkgjnjdbaabGreatDoor
open Go.RowKit

/-- A store in memory: its bins, its image. -/
structure StoreAt (w : World) (sb : Nat) (bs : List Bn) (im : ByteArray) : Prop where
  ok : ∃ a c, Blk w sb #[.slice a bs.length c, .string im] 107 ∧ w.ownsRow (sb + 1) 25 5 (.slice a bs.length c) bs.length (cellsB bs)
theorem StoreAt.lt {w : World} {sb : Nat} {bs : List Bn} {im : ByteArray} (h : StoreAt w sb bs im) : sb < w.heap.size := by
  obtain ⟨a, c, h1, _⟩ := h.ok
  exact h1.lt
theorem StoreAt.below {w w' : World} {sb : Nat} {bs : List Bn} {im : ByteArray} (h : StoreAt w sb bs im) (hb : Below w.heap.size w w') : StoreAt w' sb bs im := by
  obtain ⟨a, c, h1, h2⟩ := h.ok
  exact ⟨a, c, h1.below hb h1.lt, own_below h2 hb⟩
theorem own_but {w w' : World} {base fb : Nat} {e : TypeId} {s n : Nat} {v : Value} {xs : List Value} (h : w.ownsRow base e s v n xs) (hb : But fb w w') (hne : ∀ k, v.ownBlock = some k → k ≠ fb) : w'.ownsRow base e s v n xs := by
  refine ⟨h.1, ?_⟩
  rcases h.2 with hn | ⟨g, cap, cur, rfl, hbg, hh, r⟩
  · exact .inl hn
  · exact .inr ⟨g, cap, cur, rfl, hbg, (hb.block g (hne g rfl) (lt_of_block hh)).trans hh, r⟩
/-- The store's list is the old one, or it lies in a new block. -/
def RowNew (w w' : World) (sb : Nat) : Prop := ∀ v im, Blk w' sb #[v, .string im] 107 → (∃ im0, Blk w sb #[v, .string im0] 107) ∨ ∀ k, v.ownBlock = some k → w.heap.size ≤ k
theorem Blk.same {w : World} {b : Nat} {c1 c2 : Array Value} {t1 t2 : TypeId} (h1 : Blk w b c1 t1) (h2 : Blk w b c2 t2) : c1 = c2 := by
  unfold Blk at h1 h2
  rw [h1] at h2
  injection h2 with h2
  injection h2
theorem RowNew.same {w w1 : World} {sb : Nat} (hlt : sb < w.heap.size) (hb : Below w.heap.size w w1) : RowNew w w1 sb := fun v im h => .inl ⟨im, (hb.block sb hlt).symm.trans h⟩
theorem RowNew.pre {w w1 w' : World} {sb : Nat} (hlt : sb < w.heap.size) (hb : Below w.heap.size w w1) (h : RowNew w1 w' sb) : RowNew w w' sb := by
  intro v im hv
  rcases h v im hv with ⟨im0, h0⟩ | h0
  · exact .inl ⟨im0, (hb.block sb hlt).symm.trans h0⟩
  · exact .inr fun k hk => Nat.le_trans hb.size (h0 k hk)
/-- A store in which one field changes its list. -/
theorem StoreAt.put {w w1 : World} {sb : Nat} {bs bs' : List Bn} {im : ByteArray} (h : StoreAt w sb bs im) (hb : Below w.heap.size w w1) {a : Option Addr} {c : Nat} (ho : w1.ownsRow w.heap.size 25 5 (.slice a bs'.length c) bs'.length (cellsB bs')) :
    StoreAt (w1.setCell ⟨sb, 0, none⟩ (.slice a bs'.length c)) sb bs' im ∧ But sb w (w1.setCell ⟨sb, 0, none⟩ (.slice a bs'.length c)) ∧ RowNew w (w1.setCell ⟨sb, 0, none⟩ (.slice a bs'.length c)) sb := by
  obtain ⟨a0, c0, h1, h2⟩ := h.ok
  have h1' := h1.below hb h1.lt
  have hlt := h1.lt
  refine ⟨⟨a, c, h1'.set 0 _, ?_⟩, (But.of hb).trans (But.set sb 0 _ h1'.lt), ?_⟩
  · refine own_low (own_but ho (But.set sb 0 _ h1'.lt) fun k hk => ?_) hlt
    have := (ho.lt k hk).1
    omega
  · intro v im' hv
    have := Blk.same hv (h1'.set 0 (.slice a bs'.length c))
    have hv' : v = .slice a bs'.length c := by
      have h3 := congrArg (fun x : Array Value => x[0]?) this
      simpa using h3
    subst hv'
    exact .inr fun k hk => (ho.lt k hk).1
set_option maxHeartbeats 1000000 in
theorem stRemove_any (sb : Nat) (bs : List Bn) (im : ByteArray) (id : Int) (w : World) (h : StoreAt w sb bs im) (hl : bs.length ≤ 100) :
    Calls Tryz.prog 24 #[.pointer (some ⟨sb, 0, none⟩), .int .i64 id] w fun e w' => e = .returned (.int .i64 (remK bs id)) ∧ StoreAt w' sb (if remK bs id = 0 then dropB bs id else bs) im ∧ But sb w w' ∧ RowNew w w' sb := by
  have HS := Hid.mk2 h
  obtain ⟨a, c, h1, h2⟩ := h.ok
  have c0 := h1.cell 0
  have HO := Hid.mk2 (reads_of_own h2)
  clear h
  generalize hk : remK bs id = k
  have HK := Hid.mk2 hk
  clear hk
  go_enter Tryz.func24, Tryz.ntmps24
  go_wp2_with (go_at_call 55; refine (sRemove_any bs id _ _ HO.out hl).mono ?_; rintro e w1 ⟨hb1, hor⟩; rw [HK.out] at hor; have hB := h1.below hb1 h1.lt; have c1 := hB.cell 0; have f1 := hB.free 0; rcases hor with ⟨hk0, rfl⟩ | ⟨rfl, a', c', rfl, hown⟩)
  · go_ret
    exact ⟨rfl, HS.out.below hb1, But.of hb1, RowNew.same HS.out.lt hb1⟩
  · go_ret
    have := HS.out.put hb1 hown
    exact ⟨rfl, this⟩
set_option maxHeartbeats 1000000 in
theorem stPut_any (sb : Nat) (bs : List Bn) (im : ByteArray) (id n : Int) (hn : In64 n) (w : World) (h : StoreAt w sb bs im) (hl : bs.length ≤ 100) (hok : ∀ b ∈ bs, b.Ok) :
    Calls Tryz.prog 25 #[.pointer (some ⟨sb, 0, none⟩), .int .i64 id, .int .i64 n] w fun e w' => e = .returned (.int .i64 (putK bs id n : Nat)) ∧ StoreAt w' sb (if putK bs id n = 0 then putB bs id n else bs) im ∧ But sb w w' ∧ RowNew w w' sb := by
  have HS := Hid.mk2 h
  obtain ⟨a, c, h1, h2⟩ := h.ok
  have c0 := h1.cell 0
  have HO := Hid.mk2 (reads_of_own h2)
  clear h
  generalize hk : putK bs id n = k
  have HK := Hid.mk2 hk
  clear hk
  go_enter Tryz.func25, Tryz.ntmps25
  go_wp2_with (go_at_call 56; refine (sPut_any bs id n hn _ _ HO.out hl hok).mono ?_; rintro e w1 ⟨hb1, hor⟩; rw [HK.out] at hor; have hB := h1.below hb1 h1.lt; have c1 := hB.cell 0; have f1 := hB.free 0; rcases hor with ⟨hk0, rfl⟩ | ⟨rfl, a', c', rfl, hown⟩)
  · go_ret
    exact ⟨rfl, HS.out.below hb1, But.of hb1, RowNew.same HS.out.lt hb1⟩
  · go_ret
    have := HS.out.put hb1 hown
    exact ⟨rfl, this⟩
set_option maxHeartbeats 1000000 in
theorem stPick_any (sb : Nat) (bs : List Bn) (im : ByteArray) (id n : Int) (hn : In64 n) (w : World) (h : StoreAt w sb bs im) (hl : bs.length ≤ 100) (hok : ∀ b ∈ bs, b.Ok) :
    Calls Tryz.prog 61 #[.pointer (some ⟨sb, 0, none⟩), .int .i64 id, .int .i64 n] w fun e w' => e = .returned (.int .i64 (pickK bs id n : Nat)) ∧ StoreAt w' sb (if pickK bs id n = 0 then pickB bs id n else bs) im ∧ But sb w w' ∧ RowNew w w' sb := by
  have HS := Hid.mk2 h
  obtain ⟨a, c, h1, h2⟩ := h.ok
  have c0 := h1.cell 0
  have HO := Hid.mk2 (reads_of_own h2)
  clear h
  generalize hk : pickK bs id n = k
  have HK := Hid.mk2 hk
  clear hk
  go_enter Tryz.func61, Tryz.ntmps61
  go_wp2_with (go_at_call 83; refine (sPick_any bs id n hn _ _ HO.out hl hok).mono ?_; rintro e w1 ⟨hb1, hor⟩; rw [HK.out] at hor; have hB := h1.below hb1 h1.lt; have c1 := hB.cell 0; have f1 := hB.free 0; rcases hor with ⟨hk0, rfl⟩ | ⟨rfl, a', c', rfl, hown⟩)
  · go_ret
    exact ⟨rfl, HS.out.below hb1, But.of hb1, RowNew.same HS.out.lt hb1⟩
  · go_ret
    have := HS.out.put hb1 hown
    exact ⟨rfl, this⟩
set_option maxHeartbeats 1000000 in
theorem stBins_any (sb : Nat) (bs : List Bn) (im : ByteArray) (w : World) (h : StoreAt w sb bs im) (hl : bs.length ≤ 100) :
    Calls Tryz.prog 22 #[.pointer (some ⟨sb, 0, none⟩)] w fun e w' => Below w.heap.size w w' ∧ ∃ a c, e = .returned (.slice a bs.length c) ∧ w'.ownsRow w.heap.size 25 5 (.slice a bs.length c) bs.length (cellsB bs) := by
  obtain ⟨a, c, h1, h2⟩ := h.ok
  have c0 := h1.cell 0
  have HO := Hid.mk2 (reads_of_own h2)
  clear h
  go_enter Tryz.func22, Tryz.ntmps22
  go_wp2_with (go_at_call 54; refine (Copy_any bs _ _ HO.out hl).mono ?_; rintro e w1 ⟨hb1, v', rfl, hown⟩; obtain ⟨a', c', rfl⟩ := (reads_of_own hown).shape)
  go_ret
  exact ⟨hb1, _, _, rfl, hown⟩
set_option maxHeartbeats 2000000 in
theorem stAdd_any (sb : Nat) (bs : List Bn) (im : ByteArray) (b : Bn) (w : World) (h : StoreAt w sb bs im) (hl : bs.length ≤ 100) :
    Calls Tryz.prog 31 #[.pointer (some ⟨sb, 0, none⟩), bnA b] w fun e w' => e = .returned (.int .i64 (addK bs b : Nat)) ∧ StoreAt w' sb (if addK bs b = 0 then insB bs b else bs) im ∧ But sb w w' ∧ RowNew w w' sb := by
  have HS := Hid.mk2 (h.below (box3 w (.cells #[.int .i64 b.id, .int .i64 b.zone, .int .i64 b.cap, .int .i64 b.used, .int .i64 b.has] 25)))
  have hlt := h.lt
  have HN := Hid.mk2 (Blk.new w #[.int .i64 b.id, .int .i64 b.zone, .int .i64 b.cap, .int .i64 b.used, .int .i64 b.has] 25)
  have HWB := Hid.mk2 (box3 w (.cells #[.int .i64 b.id, .int .i64 b.zone, .int .i64 b.cap, .int .i64 b.used, .int .i64 b.has] 25))
  have HW : Hid (But sb w (w.alloc (.cells #[.int .i64 b.id, .int .i64 b.zone, .int .i64 b.cap, .int .i64 b.used, .int .i64 b.has] 25))) := But.of (box3 w _)
  obtain ⟨a, c, h1, h2⟩ := HS.out.ok
  have HO := Hid.mk2 (reads_of_own h2)
  have H1 := Hid.mk2 h1
  clear h h1 h2
  generalize hk : addK bs b = k
  have HK := Hid.mk2 hk
  clear hk
  unfold bnA
  go_enter Tryz.func31, Tryz.ntmps31
  go_wp2
  generalize hw1 : w.alloc (.cells #[.int .i64 b.id, .int .i64 b.zone, .int .i64 b.cap, .int .i64 b.used, .int .i64 b.has] 25) = w1 at *
  clear hw1
  have c0 := H1.out.cell 0
  have d0 := HN.out.cell 0
  have d1 := HN.out.cell 1
  have d2 := HN.out.cell 2
  have d3 := HN.out.cell 3
  have d4 := HN.out.cell 4
  by_cases hk0 : k = 0
  · subst hk0
    go_region_with (go_at_call 62; refine (sAdd_any bs b _ _ (HO.out.drew) hl).mono ?_; rintro e w2 ⟨hb1, hor⟩; rw [HK.out] at hor; have hB := H1.out.drew.below hb1 H1.out.lt; have c1 := hB.cell 0; have f1 := hB.free 0; obtain ⟨_, a', c', rfl, hown⟩ := hor.resolve_left (fun h => h.1 rfl))
    all_goals
      go_wp2
      go_ret
      have hb1' : Below w1.heap.size w1 w2 := (below_drewN (Below.refl w1.heap.size w1) 1).trans hb1
      have := HS.out.put hb1' hown
      exact ⟨rfl, this.1, HW.out.trans this.2.1, RowNew.pre hlt HWB.out this.2.2⟩
  · have hk1 : ((k : Int) == 0) = false := by simp; omega
    go_region_with (go_at_call 62; refine (sAdd_any bs b _ _ (HO.out.drew) hl).mono ?_; rintro e w2 ⟨hb1, hor⟩; rw [HK.out] at hor; have hB := H1.out.drew.below hb1 H1.out.lt; have c1 := hB.cell 0; have f1 := hB.free 0; obtain ⟨_, rfl⟩ := hor.resolve_right (fun h => hk0 h.1))
    all_goals
      go_wp2
      go_ret
      have hb1' : Below w1.heap.size w1 w2 := (below_drewN (Below.refl w1.heap.size w1) 1).trans hb1
      exact ⟨rfl, HS.out.below hb1', HW.out.trans (But.of hb1'), RowNew.pre hlt HWB.out (RowNew.same HS.out.lt hb1')⟩
end Go.Proofs.YtffpmkgjnjdbaabGreatDoor

set_option linter.unusedVariables false
set_option linter.unusedSimpArgs false
namespace Go.Proofs.YtffpmkgjnjdbaabGreatDoor
open Go.RowKit

/-- Numbers below 256 as bytes. -/
def bsN (l : List Nat) : ByteArray := ⟨(l.map UInt8.ofNat).toArray⟩
theorem bsN_fold (l : List Nat) : ∀ r : ByteArray, (l.map Int.ofNat).foldl (fun r n => r.push (UInt8.ofNat n.toNat)) r = ⟨r.data ++ (l.map UInt8.ofNat).toArray⟩ := by
  induction l with
  | nil => intro r; simp
  | cons c l ih =>
    intro r
    simp only [List.map_cons, List.foldl_cons]
    rw [ih]
    simp [ByteArray.push]
theorem bsN_append (l m : List Nat) : bsN l ++ bsN m = bsN (l ++ m) := by
  apply ByteArray.ext
  simp [bsN, ByteArray.data_append]
theorem conv_bytes (w : World) (b : Nat) (l : List Nat) (t : TypeId) (hb : Blk w b ((l.map fun n : Nat => Value.int .u8 (n : Int)).toArray) t) :
    (convert 153 9 (.slice (some ⟨b, 0, none⟩) l.length l.length)).run Tryz.prog w = .ok (.string (bsN l)) w := by
  rw [run_convert_bytes_string w 153 9 5 _ _ _ Tryz.underlying153 Tryz.underlying5 Tryz.underlying9]
  rw [run_bytesToString w ⟨b, 0, none⟩ l.length l.length (l.map Int.ofNat) ?_]
  · rw [bsN_fold]
    simp [bsN]
  · have h := run_loadCells_list (P := Tryz.prog) w ⟨b, 0, none⟩ ((l.map Int.ofNat).map (Value.int .u8)) ?_
    · simpa using h
    · intro j v hj
      simp at hj
      obtain ⟨c, hc, rfl⟩ := hj
      have := hb.cell j
      simp [hc] at this
      rw [show (⟨b, 0, none⟩ : Addr).add j = ⟨b, j, none⟩ by unfold Addr.add; split <;> simp_all]
      exact this
set_option maxHeartbeats 1000000 in
theorem op_any (n : Nat) (hn : n < 256) (w : World) :
    Calls Tryz.prog 59 #[.int .i64 n] w fun e w' => e = .returned (.string (bsN [n])) ∧ Below w.heap.size w w' := by
  have hcv := conv_bytes (w.alloc (Obj.cells #[Value.int .u8 n] 5)) w.heap.size [n] 5 (Blk.new w _ _)
  simp only [List.length_cons, List.length_nil, Nat.zero_add] at hcv
  go_enter Tryz.func59, Tryz.ntmps59
  go_wp2
  all_goals go_ret
  exact ⟨rfl, box3 _ _⟩
set_option maxHeartbeats 1000000 in
theorem past_any (n : Nat) (hn : n < 65536) (w : World) :
    Calls Tryz.prog 60 #[.int .i64 n] w fun e w' => e = .returned (.string (bsN [n % 256, n / 256])) ∧ Below w.heap.size w w' := by
  have hcv := conv_bytes (w.alloc (Obj.cells #[Value.int .u8 ((n % 256 : Nat) : Int), Value.int .u8 ((n / 256 : Nat) : Int)] 5)) w.heap.size [n % 256, n / 256] 5 (Blk.new w _ _)
  simp only [List.length_cons, List.length_nil, Nat.zero_add] at hcv
  obtain ⟨lo, hlo⟩ : ∃ lo, lo = n % 256 := ⟨_, rfl⟩
  obtain ⟨hi, hhi⟩ : ∃ hi, hi = n / 256 := ⟨_, rfl⟩
  rw [← hlo, ← hhi] at hcv
  have e1 : (n : Int) % 256 = (lo : Int) := by omega
  have e2 : (n : Int) / 256 = (hi : Int) := by omega
  have e3 : (hi : Int) % 256 = (hi : Int) := by omega
  rw [← hlo, ← hhi]
  clear hlo hhi
  go_enter Tryz.func60, Tryz.ntmps60
  go_wp2
  all_goals go_ret
  exact ⟨rfl, box3 _ _⟩
end Go.Proofs.YtffpmkgjnjdbaabGreatDoor

set_option linter.unusedVariables false
set_option linter.unusedSimpArgs false
namespace Go.Proofs.YtffpmkgjnjdbaabGreatDoor
open Go.RowKit

set_option maxHeartbeats 1000000 in
theorem item_any (a b c : Int) (ha : In64 a) (hb : In64 b) (hc : In64 c) (w : World) :
    Calls Tryz.prog 14 #[.int .i64 a, .int .i64 b, .int .i64 c] w fun e w' => (∃ x : Itm, x.Ok ∧ e = .returned (itmA x)) ∧ Below w.heap.size w w' := by
  have HA := Hid.mk2 ha
  have HB := Hid.mk2 hb
  have HC := Hid.mk2 hc
  clear ha hb hc
  go_enter Tryz.func14, Tryz.ntmps14
  go_wp2_with (first
    | (go_at_call_of 15 (Value.int IntKind.i64 1000); refine (pick_any a 1000 HA.out (by omega) _).mono ?_; rintro e _ ⟨⟨r1, h1, k1, rfl⟩, rfl⟩)
    | (go_at_call_of 15 (Value.int IntKind.i64 1001); refine (pick_any b 1001 HB.out (by omega) _).mono ?_; rintro e _ ⟨⟨r2, h2, k2, rfl⟩, rfl⟩)
    | (go_at_call_of 15 (Value.int IntKind.i64 3); refine (pick_any c 3 HC.out (by omega) _).mono ?_; rintro e _ ⟨⟨r3, h3, k3, rfl⟩, rfl⟩))
  refine bodyPost_ret (v := .agg #[.int .i64 (1 + r1), .int .i64 r2, .int .i64 r3]) (by simp [results, Tryz.results14, go_sem]) rfl ⟨⟨⟨1 + r1, r2, r3⟩, by unfold Itm.Ok; simp only; omega, rfl⟩, ?_⟩
  exact box3 w _
/-- What goes out beside a feed. -/
structure OutB (w wx : World) (fb : Nat) (k : Nat) (c1 c2 : Array Value) : Prop where
  b1 : Blk wx w.heap.size c1 25
  b2 : k = 1 ∨ Blk wx (w.heap.size + 1) c2 25
  bl : But fb w wx
  lt : fb < w.heap.size
  fed : FeedAt wx fb
theorem OutB.but {w wx w' : World} {fb k : Nat} {c1 c2 : Array Value} (h : OutB w wx fb k c1 c2) (hb : But fb wx w') (hf : FeedAt w' fb) : OutB w w' fb k c1 c2 :=
  have := h.lt
  ⟨h.b1.but hb (by omega), h.b2.imp id (fun h => h.but hb (by omega)), h.bl.trans hb, h.lt, hf⟩
theorem But.al {fb : Nat} {w wx : World} (h : But fb w wx) (o : Obj) : But fb w (wx.alloc o) := h.trans (But.of (box3 wx o))
theorem But.st {fb : Nat} {w wx : World} (h : But fb w wx) (b i : Nat) (hb : w.heap.size ≤ b) (v : Value) : But fb w (wx.setCell ⟨b, i, none⟩ v) :=
  ⟨h.os, h.tape, h.output, by simpa [World.setCell] using h.size, fun k h1 h2 => (Below.heap_setCell _ _ _ _ (by simp only; omega)).trans (h.block k h1 h2)⟩
theorem FeedAt.st {w : World} {fb : Nat} (h : FeedAt w fb) (b i : Nat) (v : Value) (hne : fb ≠ b) : FeedAt (w.setCell ⟨b, i, none⟩ v) fb := by
  obtain ⟨s, k, h1, h2⟩ := h.ok
  exact ⟨s, k, h1.other ⟨b, i, none⟩ v hne, h2⟩
theorem FeedAt.al {w : World} {fb : Nat} (h : FeedAt w fb) (o : Obj) : FeedAt (w.alloc o) fb := h.below (box3 w o)
theorem FeedAt.lt {w : World} {fb : Nat} (h : FeedAt w fb) : fb < w.heap.size := by
  obtain ⟨s, k, h1, _⟩ := h.ok
  exact h1.lt
set_option maxHeartbeats 2000000 in
set_option maxRecDepth 100000 in
theorem bin_any (id : Int) (hid : 0 ≤ id ∧ id ≤ 1000) (fb : Nat) (w : World) (h : FeedAt w fb) :
    Calls Tryz.prog 34 #[.int .i64 id, .pointer (some ⟨fb, 0, none⟩)] w fun e w' => (∃ y : Bn, y.Ok ∧ y.id = id ∧ e = .returned (bnA y)) ∧ FeedAt w' fb ∧ But fb w w' := by
  have hlt := h.lt
  have HQ : Hid (OutB w (w.alloc (.cells #[.int .i64 0, .int .i64 0, .int .i64 0, .int .i64 0, .int .i64 0] 25)) fb 1 #[.int .i64 0, .int .i64 0, .int .i64 0, .int .i64 0, .int .i64 0] #[]) := ⟨Blk.new w _ _, .inl rfl, (But.refl fb w).al _, hlt, h.al _⟩
  have HI := Hid.mk2 hid
  clear h hid
  go_enter Tryz.func34, Tryz.ntmps34
  go_wp2_with (first
    | (go_at_call_of 36 (Value.int IntKind.i64 10); refine (next_any 10 (by omega) fb _ HQ.out.fed).mono ?_; rintro e w1 ⟨⟨r1, h1, k1, rfl⟩, hF, hB⟩; replace HQ := Hid.mk2 (HQ.out.but hB hF); clear hF hB)
    | (go_at_call_of 36 (Value.int IntKind.i64 250); refine (next_any 250 (by omega) fb _ HQ.out.fed).mono ?_; rintro e w2 ⟨⟨r2, h2, k2, rfl⟩, hF, hB⟩; replace HQ := Hid.mk2 (HQ.out.but hB hF); clear hF hB)
    | (go_at_call_of 36 (Value.int IntKind.i64 3); refine (next_any 3 (by omega) fb _ HQ.out.fed).mono ?_; rintro e w3 ⟨⟨r3, h3, k3, rfl⟩, hF, hB⟩; replace HQ := Hid.mk2 (HQ.out.but hB hF); clear hF hB)
    | (go_at_call 36; refine (next_any (1 + 4 * r2 + 1) (by omega) fb _ (HQ.out.fed.al _)).mono ?_; rintro e w4 ⟨⟨r4, h4, k4, rfl⟩, hF, hB⟩
       have hlt3 : fb < w3.heap.size := HQ.out.fed.lt
       have hX := (Blk.new w3 #[.int .i64 id, .int .i64 r1, .int .i64 (1 + 4 * r2), .int .i64 0, .int .i64 r3] 25).but hB (by omega)
       have hz3' : w.heap.size < w3.heap.size := HQ.out.b1.lt
       have hne : w.heap.size ≠ w3.heap.size := by omega
       replace HQ := Hid.mk2 ((HQ.out.but (But.of (box3 w3 (.cells #[.int .i64 id, .int .i64 r1, .int .i64 (1 + 4 * r2), .int .i64 0, .int .i64 r3] 25))) (HQ.out.fed.al _)).but hB hF)
       have hXX := hX.set 3 (.int .i64 r4)
       have x0 := hXX.cell 0
       have x1 := hXX.cell 1
       have x2 := hXX.cell 2
       have x3 := hXX.cell 3
       have x4 := hXX.cell 4
       have fx := hX.free 3
       have c3 := hX.cell 3
       have hO := HQ.out.b1.other ⟨w3.heap.size, 3, none⟩ (.int .i64 r4) hne
       have o0 := hO.cell 0
       have o1 := hO.cell 1
       have o2 := hO.cell 2
       have o3 := hO.cell 3
       have o4 := hO.cell 4
       have f0 := hO.free 0
       have f1 := hO.free 1
       have f2 := hO.free 2
       have f3 := hO.free 3
       have f4 := hO.free 4
       have HO := Hid.mk2 hO
       clear hO hXX hX hF hB))
  have hfb := ((((HO.out.set 0 (.int .i64 id)).set 1 (.int .i64 r1)).set 2 (.int .i64 (1 + 4 * r2))).set 3 (.int .i64 r4)).set 4 (.int .i64 r3)
  have g0 := hfb.cell 0
  have g1 := hfb.cell 1
  have g2 := hfb.cell 2
  have g3 := hfb.cell 3
  have g4 := hfb.cell 4
  have hz3 : w.heap.size ≤ w3.heap.size := by omega
  refine bodyPost_ret (v := .agg #[.int .i64 id, .int .i64 r1, .int .i64 (1 + 4 * r2), .int .i64 r4, .int .i64 r3]) (by simp [results, Tryz.results34, go_sem, g0, g1, g2, g3, g4]) rfl ⟨⟨⟨id, r1, 1 + 4 * r2, r4, r3⟩, by have := HI.out; unfold Bn.Ok; simp only; omega, rfl, rfl⟩, ?_, ?_⟩
  · exact (((((HQ.out.fed.st w3.heap.size 3 _ (by omega)).st w.heap.size 0 _ (by omega)).st w.heap.size 1 _ (by omega)).st w.heap.size 2 _ (by omega)).st w.heap.size 3 _ (by omega)).st w.heap.size 4 _ (by omega)
  · exact (((((HQ.out.bl.st w3.heap.size 3 hz3 _).st w.heap.size 0 (Nat.le_refl _) _).st w.heap.size 1 (Nat.le_refl _) _).st w.heap.size 2 (Nat.le_refl _) _).st w.heap.size 3 (Nat.le_refl _) _).st w.heap.size 4 (Nat.le_refl _) _
theorem feed_at (w : World) (o : Obj) (s : ByteArray) (hs : s.size ≤ maxLen) : FeedAt ((w.alloc o).alloc (.cells #[.string s, .int .i64 0] 31)) (w.heap.size + 1) := by
  have := Blk.new (w.alloc o) #[.string s, .int .i64 0] 31
  exact ⟨s, 0, by simpa using this, Nat.zero_le _, hs⟩
structure OutR (w wx : World) : Prop where
  b1 : Blk wx w.heap.size #[.int .i64 0, .int .i64 0, .int .i64 0] 23
  b2 : Blk wx (w.heap.size + 1) #[.int .i64 0, .int .i64 0, .int .i64 0, .int .i64 0, .int .i64 0] 25
  bl : Below w.heap.size w wx
theorem OutR.below {w wx w' : World} (h : OutR w wx) (hb : Below wx.heap.size wx w') : OutR w w' := ⟨h.b1.below hb h.b1.lt, h.b2.below hb h.b2.lt, h.bl.trans (hb.mono h.bl.size)⟩
theorem OutR.al {w wx : World} (h : OutR w wx) (o : Obj) : OutR w (wx.alloc o) := h.below (box3 wx o)
theorem OutR.but {w wx w' : World} {fb : Nat} (h : OutR w wx) (hb : But fb wx w') (hf : w.heap.size + 1 < fb) : OutR w w' := ⟨h.b1.but hb (by omega), h.b2.but hb (by omega), h.bl.trans (hb.below (by omega) h.bl.size)⟩
theorem outR_start (w : World) : OutR w ((w.alloc (.cells #[.int .i64 0, .int .i64 0, .int .i64 0] 23)).alloc (.cells #[.int .i64 0, .int .i64 0, .int .i64 0, .int .i64 0, .int .i64 0] 25)) := by
  refine ⟨(Blk.new w _ _).alloc _, ?_, (box3 w _).trans ((box3 _ _).mono (by simp))⟩
  have := Blk.new (w.alloc (.cells #[.int .i64 0, .int .i64 0, .int .i64 0] 23)) #[.int .i64 0, .int .i64 0, .int .i64 0, .int .i64 0, .int .i64 0] 25
  simpa using this
set_option maxHeartbeats 2000000 in
set_option maxRecDepth 100000 in
theorem around_any (a b c : Int) (ha : In64 a) (hb : In64 b) (hc : In64 c) (s : ByteArray) (hs : s.size ≤ maxLen) (w : World) :
    Calls Tryz.prog 8 #[.int .i64 a, .int .i64 b, .int .i64 c, .string s] w fun e w' => (∃ (x : Itm) (y : Bn), x.Ok ∧ y.Ok ∧ e = .returned (.tuple #[itmA x, bnA y])) ∧ Below w.heap.size w w' := by
  have HA := Hid.mk2 ha
  have HB := Hid.mk2 hb
  have HC := Hid.mk2 hc
  have HS := Hid.mk2 hs
  have HR := Hid.mk2 (outR_start w)
  clear ha hb hc hs
  go_enter Tryz.func8, Tryz.ntmps8
  go_wp2_with (first
    | (go_at_call 14; refine (item_any a b c HA.out HB.out HC.out _).mono ?_; rintro e w1 ⟨⟨x, hx, rfl⟩, hb1⟩; unfold itmA; replace HR := Hid.mk2 (HR.out.below hb1); have hl1 := HR.out.b2.lt; have hI := Blk.new w1 #[.int .i64 x.size, .int .i64 x.speed, .int .i64 x.need] 23; clear hb1)
    | (go_at_call 15; refine (pick_any a 1001 HA.out (by omega) _).mono ?_; rintro e _ ⟨⟨r, hr0, hr1, rfl⟩, rfl⟩)
    | (go_at_call 34; refine (bin_any r (by omega) _ _ (feed_at w1 _ s HS.out)).mono ?_; rintro e w2 ⟨⟨y, hy, hid, rfl⟩, hF, hB2⟩; clear hid; unfold bnA; replace HR := Hid.mk2 ((((HR.out.al _).al _).but hB2 (by omega)).al (.cells #[.int .i64 y.id, .int .i64 y.zone, .int .i64 y.cap, .int .i64 y.used, .int .i64 y.has] 25)); replace hI := ((hI.alloc _).but hB2 (by omega)).alloc (.cells #[.int .i64 y.id, .int .i64 y.zone, .int .i64 y.cap, .int .i64 y.used, .int .i64 y.has] 25); have hl2 : w1.heap.size + 1 < w2.heap.size := hF.lt; clear hF hB2))
  have HX := Hid.mk2 hx
  have HY := Hid.mk2 hy
  clear hx hy
  have i0 := hI.cell 0
  have i1 := hI.cell 1
  have i2 := hI.cell 2
  have f0 := HR.out.b1.free 0
  have f1 := HR.out.b1.free 1
  have f2 := HR.out.b1.free 2
  have p0 := HR.out.b2.free 0
  have p1 := HR.out.b2.free 1
  have p2 := HR.out.b2.free 2
  have p3 := HR.out.b2.free 3
  have p4 := HR.out.b2.free 4
  have q0 := HR.out.b1.cell 0
  have q1 := HR.out.b1.cell 1
  have q2 := HR.out.b1.cell 2
  have s0 := HR.out.b2.cell 0
  have s1 := HR.out.b2.cell 1
  have s2 := HR.out.b2.cell 2
  have s3 := HR.out.b2.cell 3
  have s4 := HR.out.b2.cell 4
  go_region
  have hf1 := (((((((((HR.out.b1).set 0 (.int .i64 x.size)).set 1 (.int .i64 x.speed)).set 2 (.int .i64 x.need)).other ⟨w.heap.size + 1, 0, none⟩ (.int .i64 y.id) (by simp only; omega)).other ⟨w.heap.size + 1, 1, none⟩ (.int .i64 y.zone) (by simp only; omega)).other ⟨w.heap.size + 1, 2, none⟩ (.int .i64 y.cap) (by simp only; omega)).other ⟨w.heap.size + 1, 3, none⟩ (.int .i64 y.used) (by simp only; omega)).other ⟨w.heap.size + 1, 4, none⟩ (.int .i64 y.has) (by simp only; omega)).drew
  have hf2 := (((((((((HR.out.b2).other ⟨w.heap.size, 0, none⟩ (.int .i64 x.size) (by simp only; omega)).other ⟨w.heap.size, 1, none⟩ (.int .i64 x.speed) (by simp only; omega)).other ⟨w.heap.size, 2, none⟩ (.int .i64 x.need) (by simp only; omega)).set 0 (.int .i64 y.id)).set 1 (.int .i64 y.zone)).set 2 (.int .i64 y.cap)).set 3 (.int .i64 y.used)).set 4 (.int .i64 y.has)).drew
  have a0 := hf1.cell 0
  have a1 := hf1.cell 1
  have a2 := hf1.cell 2
  have b0 := hf2.cell 0
  have b1 := hf2.cell 1
  have b2 := hf2.cell 2
  have b3 := hf2.cell 3
  have b4 := hf2.cell 4
  have HF := Hid.mk2 ((((((((((HR.out.bl).setCell (p := ⟨w.heap.size, 0, none⟩) (by simp only; omega) (.int .i64 x.size)).setCell (p := ⟨w.heap.size, 1, none⟩) (by simp only; omega) (.int .i64 x.speed)).setCell (p := ⟨w.heap.size, 2, none⟩) (by simp only; omega) (.int .i64 x.need)).setCell (p := ⟨w.heap.size + 1, 0, none⟩) (by simp only; omega) (.int .i64 y.id)).setCell (p := ⟨w.heap.size + 1, 1, none⟩) (by simp only; omega) (.int .i64 y.zone)).setCell (p := ⟨w.heap.size + 1, 2, none⟩) (by simp only; omega) (.int .i64 y.cap)).setCell (p := ⟨w.heap.size + 1, 3, none⟩) (by simp only; omega) (.int .i64 y.used)).setCell (p := ⟨w.heap.size + 1, 4, none⟩) (by simp only; omega) (.int .i64 y.has)).drew)
  clear hf1 hf2
  go_wp2
  refine bodyPost_ret (v := .tuple #[.agg #[.int .i64 x.size, .int .i64 x.speed, .int .i64 x.need], .agg #[.int .i64 y.id, .int .i64 y.zone, .int .i64 y.cap, .int .i64 y.used, .int .i64 y.has]]) (by simp [results, Tryz.results8, go_sem, a0, a1, a2, b0, b1, b2, b3, b4]) rfl ⟨⟨x, y, HX.out, HY.out, rfl⟩, HF.out⟩
end Go.Proofs.YtffpmkgjnjdbaabGreatDoor
