/-
  The program's check: readSound, Check.
-/
import Derived.Test.YtjjbmbjmdgoofaaGreatDoorB26
import Derived.Test.YtjjbmbjmdgoofaaGreatDoorB08
import Derived.Test.YtjjbmbjmdgoofaaGreatDoorProg
import Derived.Deep.Light
import Derived.Test.YtjjbmbjmdgoofaaGreatDoorB09
import Derived.Laws.BytesString
import Derived.Laws.Cells
import Derived.BigQuiet
import Derived.Deep.RegionHeld3
import Derived.Deep.RegionWith
import Derived.Test.YtjjbmbjmdgoofaaGreatDoorB22
set_option linter.unusedVariables false
set_option linter.unusedSimpArgs false
namespace Go.Proofs.YtjjbmbjmdgoofaaGreatDoor
open Go.RowKit Go.Deep
def SoundAs (s : Txt) (c : Int) (p : Nat) : Prop :=
  (tokened s = .bad c p ∧ c ≠ 0) ∨ ∃ (L R : List RSt) (n : Nat), PolicyOf s L R ∧ errsOf (nodesS 0 (L ++ R)) (letsS 0 (L ++ R)) (rulesS 0 (L ++ R)) = (n, p) ∧ c = n
theorem Read_bad (s : ByteArray) (w : World) (hg : GlobT w) (hz : s.size ≤ maxLen) {c : Int} {p : Nat} (h : tokened s.toList = .bad c p) :
    Calls Tryz.prog 32 #[.string s] w fun e w' => Below w.heap.size w w' ∧ c ≠ 0 ∧ e = .returned (.tuple #[.agg #[nilS, nilS, nilS], .int .i64 c, .int .i64 (p : Nat)]) := by
  refine (Read_any s w hg hz).mono ?_
  rintro e w' ⟨hb, ⟨c', p', ht, hc, rfl⟩ | ⟨L, R, nv, lv, rv, hp, _⟩⟩
  · rw [h] at ht; cases ht; exact ⟨hb, hc, rfl⟩
  · have := hp.fine; rw [h] at this; cases this
theorem Read_fine (s : ByteArray) (w : World) (hg : GlobT w) (hz : s.size ≤ maxLen) {l : List RTok} (h : tokened s.toList = .fine l) :
    Calls Tryz.prog 32 #[.string s] w fun e w' => Below w.heap.size w w' ∧ ∃ L R na nc la lc ra rc, PolicyOf s.toList L R ∧ e = .returned (.tuple #[.agg #[.slice na (nodesS 0 (L ++ R)).length nc, .slice la (letsS 0 (L ++ R)).length lc, .slice ra (rulesS 0 (L ++ R)).length rc], .int .i64 0, .int .i64 0]) ∧ PolAt w' (.slice na (nodesS 0 (L ++ R)).length nc) (.slice la (letsS 0 (L ++ R)).length lc) (.slice ra (rulesS 0 (L ++ R)).length rc) (nodesS 0 (L ++ R)) (letsS 0 (L ++ R)) (rulesS 0 (L ++ R)) := by
  refine (Read_any s w hg hz).mono ?_
  rintro e w' ⟨hb, ⟨c', p', ht, hc, rfl⟩ | ⟨L, R, nv, lv, rv, hp, rfl, hm⟩⟩
  · rw [h] at ht; cases ht
  · have hpa := PolAt.of hm hp
    obtain ⟨na, nc, rfl⟩ := hpa.n.shape
    obtain ⟨la, lc, rfl⟩ := hpa.l.shape
    obtain ⟨ra, rc, rfl⟩ := hpa.r.shape
    exact ⟨hb, L, R, na, nc, la, lc, ra, rc, hp, rfl, hpa⟩
theorem errs_zero {N : List PNode} {ls : List PLet} {rs : List PRule} {p : Nat} (h : errsOf N ls rs = (0, p)) : p = 0 := by
  unfold errsOf at h
  split at h
  · cases h
  · split at h
    · cases h
    · split at h
      · cases h
      · cases h; rfl
theorem three_sets {w w1 : World} (h : Below w.heap.size w w1) (a b c : Value) : Below w.heap.size w (((w1.setCell ⟨w.heap.size, 0, none⟩ a).setCell ⟨w.heap.size, 1, none⟩ b).setCell ⟨w.heap.size, 2, none⟩ c) :=
  ((h.setCell (p := ⟨w.heap.size, 0, none⟩) (Nat.le_refl _) a).setCell (p := ⟨w.heap.size, 1, none⟩) (Nat.le_refl _) b).setCell (p := ⟨w.heap.size, 2, none⟩) (Nat.le_refl _) c
set_option maxHeartbeats 2000000 in
set_option maxRecDepth 100000 in
theorem readSound_any (s : ByteArray) (w : World) (hg : GlobT w) (hz : s.size ≤ maxLen) :
    Calls Tryz.prog 34 #[.string s] w fun e w' => Below w.heap.size w w' ∧ ∃ c p, SoundAs s.toList c p ∧ ∃ a1 l1 c1 a2 l2 c2 a3 l3 c3, e = .returned (.tuple #[.agg #[.slice a1 l1 c1, .slice a2 l2 c2, .slice a3 l3 c3], .int .i64 c, .int .i64 (p : Nat)]) := by
  have hbz := new_below w (.cells #[nilS, nilS, nilS] 77)
  have HG := hideP (hg.below hbz)
  have HZ := hideP (Blk.new w #[nilS, nilS, nilS] 77)
  have HBZ := hideP hbz
  have HSZ := hideP hz
  clear hg hbz hz
  cases htk : tokened s.toList with
  | error cp =>
    obtain ⟨c, p⟩ := cp
    have HTK : Hid (tokened s.toList = .bad c p) := htk
    clear htk
    go_enter Tryz.func34, Tryz.ntmps34
    go_wp2_with (go_at_call 32; refine (Read_bad s _ HG.out HSZ.out HTK.out).mono ?_; rintro e w1 ⟨hb1, hc, rfl⟩; have HZ1 := hideP (HZ.out.below hb1 HZ.out.lt); have HB1 := hideP hb1; have hz1 := HZ1.out.lt; have z0 := HZ1.out.cell 0; have z1 := HZ1.out.cell 1; have z2 := HZ1.out.cell 2; have f0 := HZ1.out.free 0; have f1 := HZ1.out.free 1; have f2 := HZ1.out.free 2; clear hb1)
    have hfb := (((HZ1.out.set 0 (.slice none 0 0)).set 1 (.slice none 0 0)).set 2 (.slice none 0 0)).alloc (.cells #[.slice none 0 0, .slice none 0 0, .slice none 0 0] 77)
    have g0 := hfb.cell 0
    have g1 := hfb.cell 1
    have g2 := hfb.cell 2
    have hbl := (three_sets (HBZ.out.trans (HB1.out.mono HBZ.out.size)) (.slice none 0 0) (.slice none 0 0) (.slice none 0 0)).trans ((new_below _ (.cells #[.slice none 0 0, .slice none 0 0, .slice none 0 0] 77)).mono (by simp; omega))
    exact bodyPost_ret (v := .tuple #[.agg #[.slice none 0 0, .slice none 0 0, .slice none 0 0], .int .i64 c, .int .i64 p]) (by simp [results, Tryz.results34, go_sem, g0, g1, g2]) rfl ⟨hbl, c, p, Or.inl ⟨HTK.out, hc⟩, _, _, _, _, _, _, _, _, _, rfl⟩
  | ok l =>
    have HTK : Hid (tokened s.toList = .fine l) := htk
    clear htk
    go_enter Tryz.func34, Tryz.ntmps34
    go_wp2_with (first | (go_at_call 32; refine (Read_fine s _ HG.out HSZ.out HTK.out).mono ?_; rintro e w1 ⟨hb1, L, R, na, nc, la, lc, ra, rc, hp, rfl, hpa⟩; have HZ1 := hideP (HZ.out.below hb1 HZ.out.lt); have HB1 := hideP (HBZ.out.trans (hb1.mono HBZ.out.size)); have hz1 := HZ1.out.lt; have HP := hideP hp; have HPA := hideP hpa; clear hb1 hp hpa) | (go_at_call 60; refine (Errors_any _ _ _ _ _ _ _ (HPA.out.below (new_below w1 _)) (fits_of HP.out HPA.out.nb)).mono ?_; rintro e w3 ⟨rfl, hb3⟩; obtain ⟨np, hnp⟩ : ∃ np, errsOf (nodesS 0 (L ++ R)) (letsS 0 (L ++ R)) (rulesS 0 (L ++ R)) = np := ⟨_, rfl⟩; obtain ⟨n, p⟩ := np; rw [hnp]; dsimp only; have HNP := hideP hnp; have HZ3 := hideP ((HZ1.out.alloc (.cells #[.slice na (nodesS 0 (L ++ R)).length nc, .slice la (letsS 0 (L ++ R)).length lc, .slice ra (rulesS 0 (L ++ R)).length rc] 77)).below hb3 (HZ1.out.alloc (.cells #[.slice na (nodesS 0 (L ++ R)).length nc, .slice la (letsS 0 (L ++ R)).length lc, .slice ra (rulesS 0 (L ++ R)).length rc] 77)).lt); have HV3 := hideP ((Blk.new w1 #[.slice na (nodesS 0 (L ++ R)).length nc, .slice la (letsS 0 (L ++ R)).length lc, .slice ra (rulesS 0 (L ++ R)).length rc] 77).below hb3 (Blk.new w1 #[.slice na (nodesS 0 (L ++ R)).length nc, .slice la (letsS 0 (L ++ R)).length lc, .slice ra (rulesS 0 (L ++ R)).length rc] 77).lt); have HB3 := hideP ((HB1.out.trans ((new_below w1 (.cells #[.slice na (nodesS 0 (L ++ R)).length nc, .slice la (letsS 0 (L ++ R)).length lc, .slice ra (rulesS 0 (L ++ R)).length rc] 77)).mono HB1.out.size)).trans (hb3.mono (by simp; omega))); have hz3 := HZ3.out.lt; have hv3 := HV3.out.lt; have z0 := HZ3.out.cell 0; have z1 := HZ3.out.cell 1; have z2 := HZ3.out.cell 2; have f0 := HZ3.out.free 0; have f1 := HZ3.out.free 1; have f2 := HZ3.out.free 2; have v0 := HV3.out.cell 0; have v1 := HV3.out.cell 1; have v2 := HV3.out.cell 2; clear hb3 hnp))
    · rename_i hn0
      have hfb := ((HZ3.out.set 0 (.slice none 0 0)).set 1 (.slice none 0 0)).set 2 (.slice none 0 0)
      have g0 := hfb.cell 0
      have g1 := hfb.cell 1
      have g2 := hfb.cell 2
      have hbl := three_sets HB3.out (.slice none 0 0) (.slice none 0 0) (.slice none 0 0)
      exact bodyPost_ret (v := .tuple #[.agg #[.slice none 0 0, .slice none 0 0, .slice none 0 0], .int .i64 n, .int .i64 p]) (by simp [results, Tryz.results34, go_sem, g0, g1, g2]) rfl ⟨hbl, n, p, Or.inr ⟨L, R, n, HP.out, HNP.out, rfl⟩, _, _, _, _, _, _, _, _, _, rfl⟩
    · rename_i hn0
      have hn1 : n = 0 := by simpa using hn0
      subst hn1
      have hp0 := errs_zero HNP.out
      subst hp0
      have hfb := ((HZ3.out.set 0 (.slice na (nodesS 0 (L ++ R)).length nc)).set 1 (.slice la (letsS 0 (L ++ R)).length lc)).set 2 (.slice ra (rulesS 0 (L ++ R)).length rc)
      have g0 := hfb.cell 0
      have g1 := hfb.cell 1
      have g2 := hfb.cell 2
      have hbl := three_sets HB3.out (.slice na (nodesS 0 (L ++ R)).length nc) (.slice la (letsS 0 (L ++ R)).length lc) (.slice ra (rulesS 0 (L ++ R)).length rc)
      exact bodyPost_ret (v := .tuple #[.agg #[.slice na (nodesS 0 (L ++ R)).length nc, .slice la (letsS 0 (L ++ R)).length lc, .slice ra (rulesS 0 (L ++ R)).length rc], .int .i64 0, .int .i64 0]) (by simp [results, Tryz.results34, go_sem, g0, g1, g2]) rfl ⟨hbl, 0, 0, Or.inr ⟨L, R, 0, HP.out, HNP.out, rfl⟩, _, _, _, _, _, _, _, _, _, rfl⟩
set_option maxHeartbeats 1000000 in
theorem Check_prog (s : ByteArray) (w : World) (hg : GlobT w) (hz : s.size ≤ maxLen) :
    Calls Tryz.prog 11 #[.string s] w fun e w' => Below w.heap.size w w' ∧ ∃ c p, SoundAs s.toList c p ∧ e = .returned (.tuple #[.int .i64 c, .int .i64 (p : Nat)]) := by
  have HG := hideP hg
  have HSZ := hideP hz
  clear hg hz
  go_enter Tryz.func11, Tryz.ntmps11
  go_wp2_with (go_at_call 34; refine (readSound_any s _ HG.out HSZ.out).mono ?_; rintro e w1 ⟨hb1, c, p, hs, a1, l1, c1, a2, l2, c2, a3, l3, c3, rfl⟩; have HB1 := hideP hb1; have HS := hideP hs; clear hb1 hs)
  go_ret2
  exact ⟨HB1.out.trans ((new_below w1 _).mono HB1.out.size), c, p, HS.out, rfl⟩
end Go.Proofs.YtjjbmbjmdgoofaaGreatDoor
namespace Go.Proofs.YtjjbmbjmdgoofaaGreatDoor
open Go.RowKit
end Go.Proofs.YtjjbmbjmdgoofaaGreatDoor
namespace Go.Proofs.YtjjbmbjmdgoofaaGreatDoor
open Go.RowKit
theorem PolMem.set {w : World} {base : Nat} {nv lv rv : Value} {L R : List RSt} (h : PolMem w base nv lv rv L R) (b i : Nat) (hb : b < base) (v : Value) : PolMem (w.setCell ⟨b, i, none⟩ v) base nv lv rv L R :=
  ⟨ownsRow_setCell_below h.ond (a := ⟨b, i, none⟩) hb v, ownsRow_setCell_below h.olt (a := ⟨b, i, none⟩) hb v, ownsRow_setCell_below h.orl (a := ⟨b, i, none⟩) hb v⟩
end Go.Proofs.YtjjbmbjmdgoofaaGreatDoor
namespace Go.Proofs.YtjjbmbjmdgoofaaGreatDoor
open Go.RowKit
theorem box3 (w : World) (o : Obj) : Below w.heap.size w (w.alloc o) := (Below.refl _ _).alloc (Nat.le_refl _) _
def itmA (x : Itm) : Value := .agg #[.int .i64 x.size, .int .i64 x.speed, .int .i64 x.need]
def bnA (y : Bn) : Value := .agg #[.int .i64 y.id, .int .i64 y.zone, .int .i64 y.cap, .int .i64 y.used, .int .i64 y.has]
end Go.Proofs.YtjjbmbjmdgoofaaGreatDoor
namespace Go.Proofs.YtjjbmbjmdgoofaaGreatDoor
open Go.RowKit
end Go.Proofs.YtjjbmbjmdgoofaaGreatDoor
namespace Go.Proofs.YtjjbmbjmdgoofaaGreatDoor
open Go.RowKit
set_option maxHeartbeats 400000 in
theorem pick_any (c n : Int) (hc : In64 c) (hn : 0 < n ∧ n ≤ 2000) (w : World) :
    Calls Tryz.prog 9 #[.int .i64 c, .int .i64 n] w fun e w' => (∃ r : Int, 0 ≤ r ∧ r < n ∧ e = .returned (.int .i64 r)) ∧ w' = w := by
  obtain ⟨h1, h2⟩ := hc
  obtain ⟨h3, h4⟩ := hn
  have en : (n == 0) = false := by simp; omega
  by_cases h : c < 0
  · have hm := Int.emod_nonneg (-(c + 1)) (b := n) (by omega)
    have hl := Int.emod_lt_of_pos (-(c + 1)) h3
    have ht : (-(c + 1)).tmod n = (-(c + 1)) % n := Int.tmod_eq_emod_of_nonneg (by omega)
    have HM := Hid.mk2 hm
    have HL := Hid.mk2 hl
    have HT := Hid.mk2 ht
    clear hm hl ht
    go_enter Tryz.func9, Tryz.ntmps9
    go_wp2
    all_goals go_ret
    have e1 : -((c + 1).tmod n) = (-(c + 1)) % n := by rw [← HT.out, Int.neg_tmod]
    exact ⟨⟨-((c + 1).tmod n), by rw [e1]; exact HM.out, by rw [e1]; exact HL.out, rfl⟩, rfl⟩
  · have hm := Int.emod_nonneg c (b := n) (by omega)
    have hl := Int.emod_lt_of_pos c h3
    have HM := Hid.mk2 hm
    have HL := Hid.mk2 hl
    clear hm hl
    go_enter Tryz.func9, Tryz.ntmps9
    go_wp2
    all_goals go_ret
    exact ⟨⟨c % n, HM.out, HL.out, rfl⟩, rfl⟩
theorem Blk.drewN {w : World} {b : Nat} {cs : Array Value} {t : TypeId} (h : Blk w b cs t) (n : Nat) : Blk (w.drewN n) b cs t := h
structure But (fb : Nat) (w w' : World) : Prop where
  os : w'.os = w.os
  tape : w'.tape = w.tape
  output : w'.output = w.output
  size : w.heap.size ≤ w'.heap.size
  block : ∀ k, k ≠ fb → k < w.heap.size → w'.heap[k]? = w.heap[k]?
theorem But.refl (fb : Nat) (w : World) : But fb w w := ⟨rfl, rfl, rfl, Nat.le_refl _, fun _ _ _ => rfl⟩
theorem But.trans {fb : Nat} {w w1 w2 : World} (h : But fb w w1) (g : But fb w1 w2) : But fb w w2 :=
  ⟨g.os.trans h.os, g.tape.trans h.tape, g.output.trans h.output, Nat.le_trans h.size g.size, fun k h1 h2 => (g.block k h1 (Nat.lt_of_lt_of_le h2 h.size)).trans (h.block k h1 h2)⟩
theorem But.of {fb : Nat} {w w' : World} (h : Below w.heap.size w w') : But fb w w' := ⟨h.os, h.tape, h.output, h.size, fun k _ h2 => h.block k h2⟩
theorem But.below {fb B : Nat} {w w' : World} (h : But fb w w') (h1 : B ≤ fb) (h2 : B ≤ w.heap.size) : Below B w w' := ⟨h.os, h.tape, h.output, h.size, fun k hk => h.block k (by omega) (by omega)⟩
theorem Blk.but {w w' : World} {b fb : Nat} {cs : Array Value} {t : TypeId} (h : Blk w b cs t) (hb : But fb w w') (hne : b ≠ fb) : Blk w' b cs t := (hb.block b hne h.lt).trans h
theorem But.set {w : World} (fb i : Nat) (v : Value) (h : fb < w.heap.size) : But fb w (w.setCell ⟨fb, i, none⟩ v) := by
  have g := (Below.refl fb w).setCell (p := ⟨fb, i, none⟩) (Nat.le_refl _) v
  exact ⟨g.os, g.tape, g.output, g.size, fun k h1 _ => Below.heap_setCell _ _ _ _ h1⟩
structure FeedAt (w : World) (fb : Nat) : Prop where
  ok : ∃ (s : ByteArray) (k : Nat), Blk w fb #[.string s, .int .i64 k] 35 ∧ k ≤ s.size ∧ s.size ≤ maxLen
theorem FeedAt.below {w w' : World} {fb : Nat} (h : FeedAt w fb) (hb : Below w.heap.size w w') : FeedAt w' fb := by
  obtain ⟨s, k, h1, h2⟩ := h.ok
  exact ⟨s, k, h1.below hb h1.lt, h2⟩
set_option maxHeartbeats 1000000 in
theorem next_any (n : Int) (hn : 0 < n ∧ n ≤ 2000) (fb : Nat) (w : World) (h : FeedAt w fb) :
    Calls Tryz.prog 29 #[.pointer (some ⟨fb, 0, none⟩), .int .i64 n] w fun e w' => (∃ r : Int, 0 ≤ r ∧ r < n ∧ e = .returned (.int .i64 r)) ∧ FeedAt w' fb ∧ But fb w w' := by
  obtain ⟨s, k, hb, hk, hs⟩ := h.ok
  have HB := Hid.mk2 hb
  have HFd := Hid.mk2 h
  have c0 := hb.cell 0
  have c1 := hb.cell 1
  have f1 := hb.free 1
  have hs' : (s.size : Int) ≤ 9223372036854775807 := by have h := hs; simp [maxLen] at h; omega
  obtain ⟨h3, h4⟩ := hn
  have en : (n == 0) = false := by simp; omega
  have HSm := Hid.mk2 hs
  clear h hb hs
  by_cases hlt : k < s.size
  · have hix := fun wx => run_index_nat (P := Tryz.prog) wx 9 s .i64 (k : Int) k Tryz.underlying9 rfl hlt
    obtain ⟨c, hc⟩ : ∃ c, c = s[k].toNat := ⟨_, rfl⟩
    have hc256 : c < 256 := by rw [hc]; exact UInt8.toNat_lt _
    rw [← hc] at hix
    have hm := Int.emod_nonneg (c : Int) (b := n) (by omega)
    have hl := Int.emod_lt_of_pos (c : Int) h3
    have HM := Hid.mk2 hm
    have HL := Hid.mk2 hl
    have dk : decide ((s.size : Int) ≤ (k : Int)) = false := by simp; omega
    clear hc hm hl
    go_enter Tryz.func29, Tryz.ntmps29
    go_wp2
    go_quiet (fail)
    go_wp2
    go_quiet (fail)
    go_wp2
    go_ret
    exact ⟨⟨_, HM.out, HL.out, rfl⟩, ⟨s, k + 1, (HB.out.drewN _).set 1 _, by omega, HSm.out⟩, (But.of (below_drewN (Below.refl _ w) _)).trans (But.set fb 1 _ HB.out.lt)⟩
  · have dk : decide ((s.size : Int) ≤ (k : Int)) = true := by simp; omega
    go_enter Tryz.func29, Tryz.ntmps29
    go_wp2
    go_quiet (fail)
    go_wp2
    go_ret
    exact ⟨⟨0, Int.le_refl _, h3, rfl⟩, ⟨s, k, HB.out.drewN _, hk, HSm.out⟩, But.of (below_drewN (Below.refl _ w) _)⟩
end Go.Proofs.YtjjbmbjmdgoofaaGreatDoor
namespace Go.Proofs.YtjjbmbjmdgoofaaGreatDoor
open Go.RowKit
end Go.Proofs.YtjjbmbjmdgoofaaGreatDoor
namespace Go.Proofs.YtjjbmbjmdgoofaaGreatDoor
open Go.RowKit
def cellB (b : Bn) : List Value := [.int .i64 b.id, .int .i64 b.zone, .int .i64 b.cap, .int .i64 b.used, .int .i64 b.has]
def cellsB (l : List Bn) : List Value := l.flatMap cellB
structure Shelf (l : List Bn) : Prop where
  up : ∀ (i j : Nat) (hi : i < l.length) (hj : j < l.length), i < j → l[i].id < l[j].id
  ok : ∀ b ∈ l, b.Ok
theorem Shelf.set {l : List Bn} (h : Shelf l) (i : Nat) (hi : i < l.length) (b : Bn) (hb : b.id = l[i].id) (hok : b.Ok) : Shelf (l.set i b) := by
  have hid : ∀ (j : Nat) (hj : j < (l.set i b).length), ((l.set i b)[j]).id = (l[j]'(by simpa using hj)).id := by
    intro j hj
    rw [List.getElem_set]
    split
    · rename_i h; subst h; exact hb
    · rfl
  refine ⟨fun j k hj hk hjk => ?_, fun x hx => ?_⟩
  · rw [hid j hj, hid k hk]
    exact h.up j k (by simpa using hj) (by simpa using hk) hjk
  · rcases List.mem_or_eq_of_mem_set hx with h1 | rfl
    · exact h.ok x h1
    · exact hok
theorem Shelf.drop {l : List Bn} (h : Shelf l) (k : Nat) : Shelf (l.drop k) := by
  refine ⟨fun i j hi hj hij => ?_, fun x hx => h.ok x (List.mem_of_mem_drop hx)⟩
  simp at hi hj
  rw [List.getElem_drop, List.getElem_drop]
  exact h.up _ _ (by omega) (by omega) (by omega)
end Go.Proofs.YtjjbmbjmdgoofaaGreatDoor
namespace Go.Proofs.YtjjbmbjmdgoofaaGreatDoor
open Go.RowKit
end Go.Proofs.YtjjbmbjmdgoofaaGreatDoor
namespace Go.Proofs.YtjjbmbjmdgoofaaGreatDoor
open Go.RowKit
theorem own_low {w : World} {base base' : Nat} {e : TypeId} {s n : Nat} {v : Value} {xs : List Value} (h : w.ownsRow base e s v n xs) (hb : base' ≤ base) : w.ownsRow base' e s v n xs := by
  refine ⟨h.1, ?_⟩
  rcases h.2 with hn | ⟨g, cap, cur, rfl, hbg, r⟩
  · exact .inl hn
  · exact .inr ⟨g, cap, cur, rfl, by omega, r⟩
end Go.Proofs.YtjjbmbjmdgoofaaGreatDoor
namespace Go.Proofs.YtjjbmbjmdgoofaaGreatDoor
open Go.RowKit
end Go.Proofs.YtjjbmbjmdgoofaaGreatDoor
namespace Go.Proofs.YtjjbmbjmdgoofaaGreatDoor
open Go.RowKit
structure Lst (w wx : World) (bs : List Bn) (v : Value) : Prop where
  reads : Reads wx v bs.length (cellsB bs)
  bl : Below w.heap.size w wx
theorem Lst.below {w wx w' : World} {bs : List Bn} {v : Value} (h : Lst w wx bs v) (hb : Below wx.heap.size wx w') : Lst w w' bs v := ⟨h.reads.below hb, h.bl.trans (hb.mono h.bl.size)⟩
theorem Lst.to {w wx w' : World} {bs : List Bn} {v : Value} (h : Lst w wx bs v) (hb : Below wx.heap.size wx w') : Below w.heap.size w w' := h.bl.trans (hb.mono h.bl.size)
theorem Lst.own {w wx w' : World} {bs : List Bn} {v v' : Value} {n : Nat} {xs : List Value} (h : Lst w wx bs v) (ho : w'.ownsRow wx.heap.size 31 5 v' n xs) : w'.ownsRow w.heap.size 31 5 v' n xs := own_low ho h.bl.size
end Go.Proofs.YtjjbmbjmdgoofaaGreatDoor
namespace Go.Proofs.YtjjbmbjmdgoofaaGreatDoor
open Go.RowKit
end Go.Proofs.YtjjbmbjmdgoofaaGreatDoor
namespace Go.Proofs.YtjjbmbjmdgoofaaGreatDoor
open Go.RowKit
structure StoreAt (w : World) (sb : Nat) (bs : List Bn) (im : ByteArray) : Prop where
  ok : ∃ a c, Blk w sb #[.slice a bs.length c, .string im] 82 ∧ w.ownsRow (sb + 1) 31 5 (.slice a bs.length c) bs.length (cellsB bs)
theorem StoreAt.lt {w : World} {sb : Nat} {bs : List Bn} {im : ByteArray} (h : StoreAt w sb bs im) : sb < w.heap.size := by
  obtain ⟨a, c, h1, _⟩ := h.ok
  exact h1.lt
theorem StoreAt.below {w w' : World} {sb : Nat} {bs : List Bn} {im : ByteArray} (h : StoreAt w sb bs im) (hb : Below w.heap.size w w') : StoreAt w' sb bs im := by
  obtain ⟨a, c, h1, h2⟩ := h.ok
  exact ⟨a, c, h1.below hb h1.lt, own_below h2 hb⟩
end Go.Proofs.YtjjbmbjmdgoofaaGreatDoor
namespace Go.Proofs.YtjjbmbjmdgoofaaGreatDoor
open Go.RowKit
structure GlobB (w : World) : Prop where
  bytes : ∀ c, c < 18 → w.cell? ⟨0, c, none⟩ = some (.int .i64 (behindN c))
  size : 0 < w.heap.size
theorem GlobB.below {w w' : World} (h : GlobB w) (hb : Below w.heap.size w w') : GlobB w' :=
  ⟨fun c hc => (hb.cell (p := ⟨0, c, none⟩) h.size).trans (h.bytes c hc), Nat.lt_of_lt_of_le h.size hb.size⟩
end Go.Proofs.YtjjbmbjmdgoofaaGreatDoor
namespace Go.Proofs.YtjjbmbjmdgoofaaGreatDoor
open Go.RowKit Go.Deep
def cellF (f : Fact) : List Value := [.bool f.isSome, .int .i64 (f.getD 0)]
def cellsF (l : List Fact) : List Value := l.flatMap cellF
end Go.Proofs.YtjjbmbjmdgoofaaGreatDoor
namespace Go.Proofs.YtjjbmbjmdgoofaaGreatDoor
open Go.RowKit Go.Deep
end Go.Proofs.YtjjbmbjmdgoofaaGreatDoor
namespace Go.Proofs.YtjjbmbjmdgoofaaGreatDoor
open Go.RowKit Go.Deep
end Go.Proofs.YtjjbmbjmdgoofaaGreatDoor
