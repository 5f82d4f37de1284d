/-
  A policy with which nothing is wrong, as it is read.
  An item and a bin as values (for a seat without the texts of Verify and Run).
  What is an item, what is a bin: by both sides.
  The small functions out of which images of known making are written: pick, op, past, Feed.next, numberOf.
  Images of known making: numberOf, op, past, eight.
  Bins in the order of their numbers: plain.
-/
import Derived.Test.YtnnbhebklnappaaGreatDoorY27
import Derived.Test.YtnnbhebklnappaaGreatDoorY09
import Derived.Test.YtnnbhebklnappaaGreatDoorY12
import Derived.Test.YtnnbhebklnappaaGreatDoorProg
import Derived.Deep.Light
import Derived.Laws.BytesString
import Derived.Laws.Cells
set_option linter.unusedVariables false
set_option linter.unusedSimpArgs false
namespace Go.Proofs.YtnnbhebklnappaaGreatDoor
open Go.RowKit

theorem Read_pol (s : ByteArray) (w : World) (hg : GlobT w) (hz : s.size ≤ maxLen) {l : List RTok} (h : tokened s.toList = .fine l) :
    Calls Tryz.prog 57 #[.string s] w fun e w' => Below w.heap.size w w' ∧ ∃ L R na nc la lc ra rc, PolicyOf s.toList L R ∧ e = .returned (.tuple #[.agg #[.slice na (nodesS 0 (L ++ R)).length nc, .slice la (letsS 0 (L ++ R)).length lc, .slice ra (rulesS 0 (L ++ R)).length rc], .int .i64 0, .int .i64 0]) ∧ PolMem w' w.heap.size (.slice na (nodesS 0 (L ++ R)).length nc) (.slice la (letsS 0 (L ++ R)).length lc) (.slice ra (rulesS 0 (L ++ R)).length rc) L R := by
  refine (Read_any s w hg hz).mono ?_
  rintro e w' ⟨hb, ⟨c', p', ht, hc, rfl⟩ | ⟨L, R, nv, lv, rv, hp, rfl, hm⟩⟩
  · rw [h] at ht; cases ht
  · have hpa := PolAt.of hm hp
    obtain ⟨na, nc, rfl⟩ := hpa.n.shape
    obtain ⟨la, lc, rfl⟩ := hpa.l.shape
    obtain ⟨ra, rc, rfl⟩ := hpa.r.shape
    exact ⟨hb, L, R, na, nc, la, lc, ra, rc, hp, rfl, hm⟩
theorem PolMem.set {w : World} {base : Nat} {nv lv rv : Value} {L R : List RSt} (h : PolMem w base nv lv rv L R) (b i : Nat) (hb : b < base) (v : Value) : PolMem (w.setCell ⟨b, i, none⟩ v) base nv lv rv L R :=
  ⟨ownsRow_setCell_below h.ond (a := ⟨b, i, none⟩) hb v, ownsRow_setCell_below h.olt (a := ⟨b, i, none⟩) hb v, ownsRow_setCell_below h.orl (a := ⟨b, i, none⟩) hb v⟩
set_option maxHeartbeats 2000000 in
set_option maxRecDepth 100000 in
theorem readSound_fine (s : ByteArray) (w : World) (hg : GlobT w) (hz : s.size ≤ maxLen) {l : List RTok} (htk : tokened s.toList = .fine l) (herr : ∀ L R, PolicyOf s.toList L R → errsOf (nodesS 0 (L ++ R)) (letsS 0 (L ++ R)) (rulesS 0 (L ++ R)) = (0, 0)) :
    Calls Tryz.prog 35 #[.string s] w fun e w' => Below w.heap.size w w' ∧ ∃ L R na nc la lc ra rc, PolicyOf s.toList L R ∧ e = .returned (.tuple #[.agg #[.slice na (nodesS 0 (L ++ R)).length nc, .slice la (letsS 0 (L ++ R)).length lc, .slice ra (rulesS 0 (L ++ R)).length rc], .int .i64 0, .int .i64 0]) ∧ PolMem w' w.heap.size (.slice na (nodesS 0 (L ++ R)).length nc) (.slice la (letsS 0 (L ++ R)).length lc) (.slice ra (rulesS 0 (L ++ R)).length rc) L R := by
  have hbz := new_below w (.cells #[nilS, nilS, nilS] 84)
  have HG := hideP (hg.below hbz)
  have HZ := hideP (Blk.new w #[nilS, nilS, nilS] 84)
  have HBZ := hideP hbz
  have HSZ := hideP hz
  have HER := hideP herr
  clear hg hbz hz herr
  have HTK : Hid (tokened s.toList = .fine l) := htk
  clear htk
  go_enter Tryz.func35, Tryz.ntmps35
  go_wp2_with (first | (go_at_call 57; refine (Read_pol s _ HG.out HSZ.out HTK.out).mono ?_; rintro e w1 ⟨hb1, L, R, na, nc, la, lc, ra, rc, hp, rfl, hpm⟩; have hpa := PolAt.of hpm hp; have HPM := hideP hpm; clear hpm; have HZ1 := hideP (HZ.out.below hb1 HZ.out.lt); have HB1 := hideP (HBZ.out.trans (hb1.mono HBZ.out.size)); have hz1 := HZ1.out.lt; have HP := hideP hp; have HPA := hideP hpa; clear hb1 hp hpa) | (go_at_call 58; refine (Errors_any _ _ _ _ _ _ _ (HPA.out.below (new_below w1 _)) (fits_of HP.out HPA.out.nb)).mono ?_; rintro e w3 ⟨rfl, hb3⟩; have HPM3 := hideP ((HPM.out.below (new_below w1 (.cells #[.slice na (nodesS 0 (L ++ R)).length nc, .slice la (letsS 0 (L ++ R)).length lc, .slice ra (rulesS 0 (L ++ R)).length rc] 84))).below hb3); obtain ⟨np, hnp⟩ : ∃ np, errsOf (nodesS 0 (L ++ R)) (letsS 0 (L ++ R)) (rulesS 0 (L ++ R)) = np := ⟨_, rfl⟩; obtain ⟨n, p⟩ := np; rw [hnp]; dsimp only; have HNP := hideP hnp; have HZ3 := hideP ((HZ1.out.alloc (.cells #[.slice na (nodesS 0 (L ++ R)).length nc, .slice la (letsS 0 (L ++ R)).length lc, .slice ra (rulesS 0 (L ++ R)).length rc] 84)).below hb3 (HZ1.out.alloc (.cells #[.slice na (nodesS 0 (L ++ R)).length nc, .slice la (letsS 0 (L ++ R)).length lc, .slice ra (rulesS 0 (L ++ R)).length rc] 84)).lt); have HV3 := hideP ((Blk.new w1 #[.slice na (nodesS 0 (L ++ R)).length nc, .slice la (letsS 0 (L ++ R)).length lc, .slice ra (rulesS 0 (L ++ R)).length rc] 84).below hb3 (Blk.new w1 #[.slice na (nodesS 0 (L ++ R)).length nc, .slice la (letsS 0 (L ++ R)).length lc, .slice ra (rulesS 0 (L ++ R)).length rc] 84).lt); have HB3 := hideP ((HB1.out.trans ((new_below w1 (.cells #[.slice na (nodesS 0 (L ++ R)).length nc, .slice la (letsS 0 (L ++ R)).length lc, .slice ra (rulesS 0 (L ++ R)).length rc] 84)).mono HB1.out.size)).trans (hb3.mono (by simp; omega))); have hz3 := HZ3.out.lt; have hv3 := HV3.out.lt; have z0 := HZ3.out.cell 0; have z1 := HZ3.out.cell 1; have z2 := HZ3.out.cell 2; have f0 := HZ3.out.free 0; have f1 := HZ3.out.free 1; have f2 := HZ3.out.free 2; have v0 := HV3.out.cell 0; have v1 := HV3.out.cell 1; have v2 := HV3.out.cell 2; clear hb3 hnp))
  · rename_i hn0
    have := HER.out L R HP.out
    rw [HNP.out] at this
    cases this
    simp at hn0
  · rename_i hn0
    have hn1 : n = 0 := by simpa using hn0
    subst hn1
    have hp0 := errs_zero HNP.out
    subst hp0
    have hfb := ((HZ3.out.set 0 (.slice na (nodesS 0 (L ++ R)).length nc)).set 1 (.slice la (letsS 0 (L ++ R)).length lc)).set 2 (.slice ra (rulesS 0 (L ++ R)).length rc)
    have g0 := hfb.cell 0
    have g1 := hfb.cell 1
    have g2 := hfb.cell 2
    have hbl := three_sets HB3.out (.slice na (nodesS 0 (L ++ R)).length nc) (.slice la (letsS 0 (L ++ R)).length lc) (.slice ra (rulesS 0 (L ++ R)).length rc)
    have hpm := ((HPM3.out.set w.heap.size 0 (by simp) (.slice na (nodesS 0 (L ++ R)).length nc)).set w.heap.size 1 (by simp) (.slice la (letsS 0 (L ++ R)).length lc)).set w.heap.size 2 (by simp) (.slice ra (rulesS 0 (L ++ R)).length rc)
    exact bodyPost_ret (v := .tuple #[.agg #[.slice na (nodesS 0 (L ++ R)).length nc, .slice la (letsS 0 (L ++ R)).length lc, .slice ra (rulesS 0 (L ++ R)).length rc], .int .i64 0, .int .i64 0]) (by simp [results, Tryz.results35, go_sem, g0, g1, g2]) rfl ⟨hbl, L, R, na, nc, la, lc, ra, rc, HP.out, rfl, ⟨own_base hpm.ond (by simp), own_base hpm.olt (by simp), own_base hpm.orl (by simp)⟩⟩
end Go.Proofs.YtnnbhebklnappaaGreatDoor

set_option linter.unusedVariables false
set_option linter.unusedSimpArgs false
namespace Go.Proofs.YtnnbhebklnappaaGreatDoor
open Go.RowKit

theorem box3 (w : World) (o : Obj) : Below w.heap.size w (w.alloc o) := (Below.refl _ _).alloc (Nat.le_refl _) _
def itmA (x : Itm) : Value := .agg #[.int .i64 x.size, .int .i64 x.speed, .int .i64 x.need]
def bnA (y : Bn) : Value := .agg #[.int .i64 y.id, .int .i64 y.zone, .int .i64 y.cap, .int .i64 y.used, .int .i64 y.has]
end Go.Proofs.YtnnbhebklnappaaGreatDoor

set_option linter.unusedVariables false
set_option linter.unusedSimpArgs false
namespace Go.Proofs.YtnnbhebklnappaaGreatDoor
open Go.RowKit

def btw (n a b : Int) : Bool := decide (a ≤ n) && decide (n ≤ b)
def itmB (x : Itm) : Bool := btw x.size 1 1000 && btw x.speed 0 1000 && btw x.need 0 2
def bnB (y : Bn) : Bool := btw y.id 0 1000 && btw y.zone 0 9 && btw y.cap 1 1000 && btw y.used 0 y.cap && btw y.has 0 2
theorem itmB_iff (x : Itm) : itmB x = true ↔ x.Ok := by unfold itmB btw Itm.Ok; simp [and_assoc]
theorem bnB_iff (y : Bn) : bnB y = true ↔ y.Ok := by unfold bnB btw Bn.Ok; simp [and_assoc]
set_option maxHeartbeats 400000 in
theorem within_any (n a b : Int) (w : World) :
    Calls Tryz.prog 65 #[.int .i64 n, .int .i64 a, .int .i64 b] w fun e w' => e = .returned (.bool (btw n a b)) ∧ w' = w := by
  unfold btw
  by_cases h : a ≤ n
  all_goals
    go_enter Tryz.func65, Tryz.ntmps65
    go_wp2
    all_goals go_ret
    all_goals exact ⟨ret_bool (by go_light; first | (simp [h]; done) | (simp; omega)), rfl⟩
set_option maxHeartbeats 400000 in
theorem isClass_any (n : Int) (w : World) :
    Calls Tryz.prog 66 #[.int .i64 n] w fun e w' => e = .returned (.bool (btw n 0 2)) ∧ w' = w := by
  go_enter Tryz.func66, Tryz.ntmps66
  go_wp2_with (go_at_call 65; refine (within_any _ _ _ _).mono ?_; rintro e w' ⟨rfl, rfl⟩)
  go_ret
  exact ⟨rfl, rfl⟩
set_option maxHeartbeats 1000000 in
theorem pIsItem_any (x : Itm) (w : World) :
    Calls Tryz.prog 38 #[itmA x] w fun e w' => e = .returned (.bool (itmB x)) ∧ Below w.heap.size w w' := by
  unfold itmA itmB
  cases h1 : btw x.size 1 1000 <;> cases h2 : btw x.speed 0 1000
  all_goals
    go_enter Tryz.func38, Tryz.ntmps38
    go_wp2_with (first | (go_at_call 65; refine (within_any _ _ _ _).mono ?_; rintro e w' ⟨rfl, rfl⟩) | (go_at_call 66; refine (isClass_any _ _).mono ?_; rintro e w' ⟨rfl, rfl⟩))
    go_ret
    exact ⟨ret_bool (by simp), box3 _ _⟩
set_option maxHeartbeats 1000000 in
theorem pIsBin_any (y : Bn) (w : World) :
    Calls Tryz.prog 39 #[bnA y] w fun e w' => e = .returned (.bool (bnB y)) ∧ Below w.heap.size w w' := by
  unfold bnA bnB
  cases h1 : btw y.id 0 1000 <;> cases h2 : btw y.zone 0 9 <;> cases h3 : btw y.cap 1 1000 <;> cases h4 : btw y.used 0 y.cap
  all_goals
    go_enter Tryz.func39, Tryz.ntmps39
    go_wp2_with (first | (go_at_call 65; refine (within_any _ _ _ _).mono ?_; rintro e w' ⟨rfl, rfl⟩) | (go_at_call 66; refine (isClass_any _ _).mono ?_; rintro e w' ⟨rfl, rfl⟩))
    go_ret
    exact ⟨ret_bool (by simp), box3 _ _⟩
end Go.Proofs.YtnnbhebklnappaaGreatDoor

set_option linter.unusedVariables false
set_option linter.unusedSimpArgs false
namespace Go.Proofs.YtnnbhebklnappaaGreatDoor
open Go.RowKit

set_option maxHeartbeats 400000 in
theorem pick_any (c n : Int) (hc : In64 c) (hn : 0 < n ∧ n ≤ 2000) (w : World) :
    Calls Tryz.prog 24 #[.int .i64 c, .int .i64 n] w fun e w' => (∃ r : Int, 0 ≤ r ∧ r < n ∧ e = .returned (.int .i64 r)) ∧ w' = w := by
  obtain ⟨h1, h2⟩ := hc
  obtain ⟨h3, h4⟩ := hn
  have en : (n == 0) = false := by simp; omega
  by_cases h : c < 0
  · have hm := Int.emod_nonneg (-(c + 1)) (b := n) (by omega)
    have hl := Int.emod_lt_of_pos (-(c + 1)) h3
    have ht : (-(c + 1)).tmod n = (-(c + 1)) % n := Int.tmod_eq_emod_of_nonneg (by omega)
    have HM := Hid.mk2 hm
    have HL := Hid.mk2 hl
    have HT := Hid.mk2 ht
    clear hm hl ht
    go_enter Tryz.func24, Tryz.ntmps24
    go_wp2
    all_goals go_ret
    have e1 : -((c + 1).tmod n) = (-(c + 1)) % n := by rw [← HT.out, Int.neg_tmod]
    exact ⟨⟨-((c + 1).tmod n), by rw [e1]; exact HM.out, by rw [e1]; exact HL.out, rfl⟩, rfl⟩
  · have hm := Int.emod_nonneg c (b := n) (by omega)
    have hl := Int.emod_lt_of_pos c h3
    have HM := Hid.mk2 hm
    have HL := Hid.mk2 hl
    clear hm hl
    go_enter Tryz.func24, Tryz.ntmps24
    go_wp2
    all_goals go_ret
    exact ⟨⟨c % n, HM.out, HL.out, rfl⟩, rfl⟩
theorem Blk.drewN {w : World} {b : Nat} {cs : Array Value} {t : TypeId} (h : Blk w b cs t) (n : Nat) : Blk (w.drewN n) b cs t := h
/-- What was there is as it was, but for one block. -/
structure But (fb : Nat) (w w' : World) : Prop where
  os : w'.os = w.os
  tape : w'.tape = w.tape
  output : w'.output = w.output
  size : w.heap.size ≤ w'.heap.size
  block : ∀ k, k ≠ fb → k < w.heap.size → w'.heap[k]? = w.heap[k]?
theorem But.refl (fb : Nat) (w : World) : But fb w w := ⟨rfl, rfl, rfl, Nat.le_refl _, fun _ _ _ => rfl⟩
theorem But.trans {fb : Nat} {w w1 w2 : World} (h : But fb w w1) (g : But fb w1 w2) : But fb w w2 :=
  ⟨g.os.trans h.os, g.tape.trans h.tape, g.output.trans h.output, Nat.le_trans h.size g.size, fun k h1 h2 => (g.block k h1 (Nat.lt_of_lt_of_le h2 h.size)).trans (h.block k h1 h2)⟩
theorem But.of {fb : Nat} {w w' : World} (h : Below w.heap.size w w') : But fb w w' := ⟨h.os, h.tape, h.output, h.size, fun k _ h2 => h.block k h2⟩
theorem But.below {fb B : Nat} {w w' : World} (h : But fb w w') (h1 : B ≤ fb) (h2 : B ≤ w.heap.size) : Below B w w' := ⟨h.os, h.tape, h.output, h.size, fun k hk => h.block k (by omega) (by omega)⟩
theorem Blk.but {w w' : World} {b fb : Nat} {cs : Array Value} {t : TypeId} (h : Blk w b cs t) (hb : But fb w w') (hne : b ≠ fb) : Blk w' b cs t := (hb.block b hne h.lt).trans h
theorem But.set {w : World} (fb i : Nat) (v : Value) (h : fb < w.heap.size) : But fb w (w.setCell ⟨fb, i, none⟩ v) := by
  have g := (Below.refl fb w).setCell (p := ⟨fb, i, none⟩) (Nat.le_refl _) v
  exact ⟨g.os, g.tape, g.output, g.size, fun k h1 _ => Below.heap_setCell _ _ _ _ h1⟩
/-- A feed of raw bytes in memory. -/
structure FeedAt (w : World) (fb : Nat) : Prop where
  ok : ∃ (s : ByteArray) (k : Nat), Blk w fb #[.string s, .int .i64 k] 31 ∧ k ≤ s.size ∧ s.size ≤ maxLen
theorem FeedAt.below {w w' : World} {fb : Nat} (h : FeedAt w fb) (hb : Below w.heap.size w w') : FeedAt w' fb := by
  obtain ⟨s, k, h1, h2⟩ := h.ok
  exact ⟨s, k, h1.below hb h1.lt, h2⟩
set_option maxHeartbeats 1000000 in
theorem next_any (n : Int) (hn : 0 < n ∧ n ≤ 2000) (fb : Nat) (w : World) (h : FeedAt w fb) :
    Calls Tryz.prog 29 #[.pointer (some ⟨fb, 0, none⟩), .int .i64 n] w fun e w' => (∃ r : Int, 0 ≤ r ∧ r < n ∧ e = .returned (.int .i64 r)) ∧ FeedAt w' fb ∧ But fb w w' := by
  obtain ⟨s, k, hb, hk, hs⟩ := h.ok
  have HB := Hid.mk2 hb
  have HFd := Hid.mk2 h
  have c0 := hb.cell 0
  have c1 := hb.cell 1
  have f1 := hb.free 1
  have hs' : (s.size : Int) ≤ 9223372036854775807 := by have h := hs; simp [maxLen] at h; omega
  obtain ⟨h3, h4⟩ := hn
  have en : (n == 0) = false := by simp; omega
  have HSm := Hid.mk2 hs
  clear h hb hs
  by_cases hlt : k < s.size
  · have hix := fun wx => run_index_nat (P := Tryz.prog) wx 9 s .i64 (k : Int) k Tryz.underlying9 rfl hlt
    obtain ⟨c, hc⟩ : ∃ c, c = s[k].toNat := ⟨_, rfl⟩
    have hc256 : c < 256 := by rw [hc]; exact UInt8.toNat_lt _
    rw [← hc] at hix
    have hm := Int.emod_nonneg (c : Int) (b := n) (by omega)
    have hl := Int.emod_lt_of_pos (c : Int) h3
    have HM := Hid.mk2 hm
    have HL := Hid.mk2 hl
    have dk : decide ((s.size : Int) ≤ (k : Int)) = false := by simp; omega
    clear hc hm hl
    go_enter Tryz.func29, Tryz.ntmps29
    go_wp2
    go_quiet (fail)
    go_wp2
    go_quiet (fail)
    go_wp2
    go_ret
    exact ⟨⟨_, HM.out, HL.out, rfl⟩, ⟨s, k + 1, (HB.out.drewN _).set 1 _, by omega, HSm.out⟩, (But.of (below_drewN (Below.refl _ w) _)).trans (But.set fb 1 _ HB.out.lt)⟩
  · have dk : decide ((s.size : Int) ≤ (k : Int)) = true := by simp; omega
    go_enter Tryz.func29, Tryz.ntmps29
    go_wp2
    go_quiet (fail)
    go_wp2
    go_ret
    exact ⟨⟨0, Int.le_refl _, h3, rfl⟩, ⟨s, k, HB.out.drewN _, hk, HSm.out⟩, But.of (below_drewN (Below.refl _ w) _)⟩
end Go.Proofs.YtnnbhebklnappaaGreatDoor

set_option linter.unusedVariables false
set_option linter.unusedSimpArgs false
namespace Go.Proofs.YtnnbhebklnappaaGreatDoor
open Go.RowKit

/-- Numbers below 256 as bytes. -/
def bsN (l : List Nat) : ByteArray := ⟨(l.map UInt8.ofNat).toArray⟩
theorem bsN_fold (l : List Nat) : ∀ r : ByteArray, (l.map Int.ofNat).foldl (fun r n => r.push (UInt8.ofNat n.toNat)) r = ⟨r.data ++ (l.map UInt8.ofNat).toArray⟩ := by
  induction l with
  | nil => intro r; simp
  | cons c l ih =>
    intro r
    simp only [List.map_cons, List.foldl_cons]
    rw [ih]
    simp [ByteArray.push]
theorem bsN_append (l m : List Nat) : bsN l ++ bsN m = bsN (l ++ m) := by
  apply ByteArray.ext
  simp [bsN, ByteArray.data_append]
theorem conv_bytes (w : World) (b : Nat) (l : List Nat) (t : TypeId) (hb : Blk w b ((l.map fun n : Nat => Value.int .u8 (n : Int)).toArray) t) :
    (convert 137 9 (.slice (some ⟨b, 0, none⟩) l.length l.length)).run Tryz.prog w = .ok (.string (bsN l)) w := by
  rw [run_convert_bytes_string w 137 9 5 _ _ _ Tryz.underlying137 Tryz.underlying5 Tryz.underlying9]
  rw [run_bytesToString w ⟨b, 0, none⟩ l.length l.length (l.map Int.ofNat) ?_]
  · rw [bsN_fold]
    simp [bsN]
  · have h := run_loadCells_list (P := Tryz.prog) w ⟨b, 0, none⟩ ((l.map Int.ofNat).map (Value.int .u8)) ?_
    · simpa using h
    · intro j v hj
      simp at hj
      obtain ⟨c, hc, rfl⟩ := hj
      have := hb.cell j
      simp [hc] at this
      rw [show (⟨b, 0, none⟩ : Addr).add j = ⟨b, j, none⟩ by unfold Addr.add; split <;> simp_all]
      exact this
set_option maxHeartbeats 1000000 in
theorem op_any (n : Nat) (hn : n < 256) (w : World) :
    Calls Tryz.prog 45 #[.int .i64 n] w fun e w' => e = .returned (.string (bsN [n])) ∧ Below w.heap.size w w' := by
  have hcv := conv_bytes (w.alloc (Obj.cells #[Value.int .u8 n] 5)) w.heap.size [n] 5 (Blk.new w _ _)
  simp only [List.length_cons, List.length_nil, Nat.zero_add] at hcv
  go_enter Tryz.func45, Tryz.ntmps45
  go_wp2
  all_goals go_ret
  exact ⟨rfl, box3 _ _⟩
set_option maxHeartbeats 1000000 in
theorem past_any (n : Nat) (hn : n < 65536) (w : World) :
    Calls Tryz.prog 46 #[.int .i64 n] w fun e w' => e = .returned (.string (bsN [n % 256, n / 256])) ∧ Below w.heap.size w w' := by
  have hcv := conv_bytes (w.alloc (Obj.cells #[Value.int .u8 ((n % 256 : Nat) : Int), Value.int .u8 ((n / 256 : Nat) : Int)] 5)) w.heap.size [n % 256, n / 256] 5 (Blk.new w _ _)
  simp only [List.length_cons, List.length_nil, Nat.zero_add] at hcv
  obtain ⟨lo, hlo⟩ : ∃ lo, lo = n % 256 := ⟨_, rfl⟩
  obtain ⟨hi, hhi⟩ : ∃ hi, hi = n / 256 := ⟨_, rfl⟩
  rw [← hlo, ← hhi] at hcv
  have e1 : (n : Int) % 256 = (lo : Int) := by omega
  have e2 : (n : Int) / 256 = (hi : Int) := by omega
  have e3 : (hi : Int) % 256 = (hi : Int) := by omega
  rw [← hlo, ← hhi]
  clear hlo hhi
  go_enter Tryz.func46, Tryz.ntmps46
  go_wp2
  all_goals go_ret
  exact ⟨rfl, box3 _ _⟩
end Go.Proofs.YtnnbhebklnappaaGreatDoor

set_option linter.unusedVariables false
set_option linter.unusedSimpArgs false
namespace Go.Proofs.YtnnbhebklnappaaGreatDoor
open Go.RowKit

def cellB (b : Bn) : List Value := [.int .i64 b.id, .int .i64 b.zone, .int .i64 b.cap, .int .i64 b.used, .int .i64 b.has]
def cellsB (l : List Bn) : List Value := l.flatMap cellB
theorem cellsB_snoc (l : List Bn) (t : Bn) : cellsB (l ++ [t]) = cellsB l ++ cellB t := by simp [cellsB]
theorem cellsB_length (l : List Bn) : (cellsB l).length = l.length * 5 := by
  induction l with
  | nil => rfl
  | cons a r ih => simp only [cellsB, List.flatMap_cons, List.length_append, List.length_cons] at ih ⊢; rw [ih]; simp [cellB]; omega
theorem cellsB_at (l : List Bn) (i : Nat) (h : i < l.length) (j : Nat) (hj : j < 5) : (cellsB l)[i * 5 + j]? = (cellB l[i])[j]? := by
  induction l generalizing i with
  | nil => simp at h
  | cons a r ih =>
    cases i with
    | zero =>
      simp only [cellsB, List.flatMap_cons, Nat.zero_mul, Nat.zero_add, List.getElem_cons_zero]
      rw [List.getElem?_append_left (by simp [cellB]; omega)]
    | succ i =>
      have hi : i < r.length := by simpa using h
      have := ih i hi
      simp only [cellsB, List.flatMap_cons, List.getElem_cons_succ] at this ⊢
      rw [List.getElem?_append_right (by simp [cellB]; omega), ← this]
      congr 1
      simp [cellB]; omega
theorem cellsB_get (l : List Bn) (i : Nat) (h : i < l.length) :
    (cellsB l)[i * 5]? = some (.int .i64 l[i].id) ∧ (cellsB l)[i * 5 + 1]? = some (.int .i64 l[i].zone) ∧ (cellsB l)[i * 5 + 2]? = some (.int .i64 l[i].cap) ∧ (cellsB l)[i * 5 + 3]? = some (.int .i64 l[i].used) ∧ (cellsB l)[i * 5 + 4]? = some (.int .i64 l[i].has) :=
  ⟨cellsB_at l i h 0 (by omega), cellsB_at l i h 1 (by omega), cellsB_at l i h 2 (by omega), cellsB_at l i h 3 (by omega), cellsB_at l i h 4 (by omega)⟩
theorem cellsB_set (l : List Bn) (i : Nat) (h : i < l.length) (b : Bn) : cellsB (l.set i b) = (((((cellsB l).set (i * 5) (.int .i64 b.id)).set (i * 5 + 1) (.int .i64 b.zone)).set (i * 5 + 2) (.int .i64 b.cap)).set (i * 5 + 3) (.int .i64 b.used)).set (i * 5 + 4) (.int .i64 b.has) := by
  induction l generalizing i with
  | nil => simp at h
  | cons a r ih =>
    cases i with
    | zero => simp [cellsB, cellB]
    | succ i =>
      have hi : i < r.length := by simpa using h
      have e := ih i hi
      simp only [List.set_cons_succ, cellsB, List.flatMap_cons] at e ⊢
      rw [e]
      simp only [cellB, List.cons_append, List.nil_append]
      rw [show (i + 1) * 5 = i * 5 + 5 by omega]
      simp [List.set_cons_succ, show i * 5 + 5 + 1 = (i * 5 + 1) + 5 by omega, show i * 5 + 5 + 2 = (i * 5 + 2) + 5 by omega, show i * 5 + 5 + 3 = (i * 5 + 3) + 5 by omega, show i * 5 + 5 + 4 = (i * 5 + 4) + 5 by omega]

/-- The bin of that number. -/
def findB (l : List Bn) (id : Int) : Option Bn := l.find? fun b => b.id == id
def insB (l : List Bn) (b : Bn) : List Bn := l.takeWhile (fun x => decide (x.id < b.id)) ++ b :: l.dropWhile (fun x => decide (x.id < b.id))
def dropB (l : List Bn) (id : Int) : List Bn := l.filter fun b => b.id != id
def replB (l : List Bn) (b : Bn) : List Bn := l.map fun x => if x.id = b.id then b else x
/-- In the order of their numbers, all of them bins. -/
structure Shelf (l : List Bn) : Prop where
  up : ∀ (i j : Nat) (hi : i < l.length) (hj : j < l.length), i < j → l[i].id < l[j].id
  ok : ∀ b ∈ l, b.Ok
theorem Shelf.nil : Shelf [] := ⟨fun i j hi => by simp at hi, by simp⟩
theorem findB_at {l : List Bn} (h : Shelf l) (i : Nat) (hi : i < l.length) : findB l l[i].id = some l[i] := by
  unfold findB
  rw [List.find?_eq_some_iff_getElem]
  refine ⟨by simp, i, hi, rfl, fun j hj => ?_⟩
  have := h.up j i (by omega) hi hj
  simp; omega
theorem findB_none {l : List Bn} {id : Int} (h : ∀ b ∈ l, b.id ≠ id) : findB l id = none := by
  unfold findB
  simp only [List.find?_eq_none, beq_iff_eq]
  exact h
theorem takeWhile_all {α : Type} (p : α → Bool) (l : List α) (k : Nat) (hk : k ≤ l.length) (h1 : ∀ (j : Nat) (hj : j < l.length), j < k → p l[j] = true) (h2 : ∀ h : k < l.length, p l[k] = false) : l.takeWhile p = l.take k ∧ l.dropWhile p = l.drop k := by
  induction l generalizing k with
  | nil => simp
  | cons a r ih =>
    cases k with
    | zero =>
      have := h2 (by simp)
      simp at this
      simp [this]
    | succ k =>
      have h0 := h1 0 (by simp) (by omega)
      simp at h0
      obtain ⟨e1, e2⟩ := ih k (by simpa using hk) (fun j hj hjk => by have := h1 (j + 1) (by simpa using hj) (by omega); simpa using this) (fun h => by have := h2 (by simpa using h); simpa using this)
      simp [h0, e1, e2]
theorem insB_at {l : List Bn} {b : Bn} (k : Nat) (hk : k ≤ l.length) (h1 : ∀ (j : Nat) (hj : j < l.length), j < k → l[j].id < b.id) (h2 : ∀ h : k < l.length, ¬ l[k].id < b.id) : insB l b = l.take k ++ b :: l.drop k := by
  obtain ⟨e1, e2⟩ := takeWhile_all (fun x : Bn => decide (x.id < b.id)) l k hk (fun j hj hjk => by simpa using h1 j hj hjk) (fun h => by simpa using h2 h)
  unfold insB
  rw [e1, e2]
theorem replB_at {l : List Bn} (h : Shelf l) (i : Nat) (hi : i < l.length) (b : Bn) (hb : b.id = l[i].id) : replB l b = l.set i b := by
  apply List.ext_getElem
  · simp [replB]
  · intro j h1 h2
    have hj : j < l.length := by simpa using h2
    simp only [replB, List.getElem_map, List.getElem_set]
    by_cases hij : i = j
    · subst hij; simp [hb]
    · rw [if_neg hij, if_neg]
      rcases Nat.lt_or_gt_of_ne hij with h3 | h3
      · have := h.up i j hi hj h3; omega
      · have := h.up j i hj hi h3; omega
theorem Shelf.set {l : List Bn} (h : Shelf l) (i : Nat) (hi : i < l.length) (b : Bn) (hb : b.id = l[i].id) (hok : b.Ok) : Shelf (l.set i b) := by
  have hid : ∀ (j : Nat) (hj : j < (l.set i b).length), ((l.set i b)[j]).id = (l[j]'(by simpa using hj)).id := by
    intro j hj
    rw [List.getElem_set]
    split
    · rename_i h; subst h; exact hb
    · rfl
  refine ⟨fun j k hj hk hjk => ?_, fun x hx => ?_⟩
  · rw [hid j hj, hid k hk]
    exact h.up j k (by simpa using hj) (by simpa using hk) hjk
  · rcases List.mem_or_eq_of_mem_set hx with h1 | rfl
    · exact h.ok x h1
    · exact hok
theorem Shelf.snoc {l : List Bn} (h : Shelf l) (b : Bn) (hb : ∀ x ∈ l, x.id < b.id) (hok : b.Ok) : Shelf (l ++ [b]) := by
  refine ⟨fun i j hi hj hij => ?_, fun x hx => ?_⟩
  · simp at hi hj
    by_cases hjl : j < l.length
    · rw [List.getElem_append_left (by omega), List.getElem_append_left hjl]
      exact h.up i j (by omega) hjl hij
    · rw [List.getElem_append_left (by omega), List.getElem_append_right (by omega)]
      simp
      exact hb _ (List.getElem_mem _)
  · rcases List.mem_append.1 hx with h1 | h1
    · exact h.ok x h1
    · simp at h1; subst h1; exact hok
theorem Shelf.drop {l : List Bn} (h : Shelf l) (k : Nat) : Shelf (l.drop k) := by
  refine ⟨fun i j hi hj hij => ?_, fun x hx => h.ok x (List.mem_of_mem_drop hx)⟩
  simp at hi hj
  rw [List.getElem_drop, List.getElem_drop]
  exact h.up _ _ (by omega) (by omega) (by omega)
end Go.Proofs.YtnnbhebklnappaaGreatDoor
