/-
  The small functions out of which images of known making are written: pick, op, past, Feed.next, numberOf.
-/
import Derived.Test.YtjjbmbjmdgoofaaGreatDoorB27
import Derived.Test.YtjjbmbjmdgoofaaGreatDoorB08
import Derived.Laws.BytesString
import Derived.Laws.Cells
import Derived.BigQuiet
import Derived.Deep.RegionHeld3
import Derived.Deep.RegionWith
import Derived.Test.YtjjbmbjmdgoofaaGreatDoorB22
import Derived.Test.YtjjbmbjmdgoofaaGreatDoorB25
import Derived.Laws.Bits64
import Derived.Laws.BitsLemmas
import Derived.Laws.OwnMore
import Derived.Deep.DeepCutAuto
import Derived.Test.YtjjbmbjmdgoofaaGreatDoorProg
import Derived.WalkLawsBesides
import Derived.Deep.QuietTactic
import Derived.Deep.Light
import Derived.Test.YtjjbmbjmdgoofaaGreatDoorB00
import Derived.Laws.BitsAllLaws
import Derived.Deep.LoopGhost
import Derived.Deep.AppendLies
set_option linter.unusedVariables false
set_option linter.unusedSimpArgs false
namespace Go.Proofs.YtjjbmbjmdgoofaaGreatDoor
open Go.RowKit
set_option maxHeartbeats 400000 in
theorem pick_any (c n : Int) (hc : In64 c) (hn : 0 < n ∧ n ≤ 2000) (w : World) :
    Calls Tryz.prog 9 #[.int .i64 c, .int .i64 n] w fun e w' => (∃ r : Int, 0 ≤ r ∧ r < n ∧ e = .returned (.int .i64 r)) ∧ w' = w := by
  obtain ⟨h1, h2⟩ := hc
  obtain ⟨h3, h4⟩ := hn
  have en : (n == 0) = false := by simp; omega
  by_cases h : c < 0
  · have hm := Int.emod_nonneg (-(c + 1)) (b := n) (by omega)
    have hl := Int.emod_lt_of_pos (-(c + 1)) h3
    have ht : (-(c + 1)).tmod n = (-(c + 1)) % n := Int.tmod_eq_emod_of_nonneg (by omega)
    have HM := Hid.mk2 hm
    have HL := Hid.mk2 hl
    have HT := Hid.mk2 ht
    clear hm hl ht
    go_enter Tryz.func9, Tryz.ntmps9
    go_wp2
    all_goals go_ret
    have e1 : -((c + 1).tmod n) = (-(c + 1)) % n := by rw [← HT.out, Int.neg_tmod]
    exact ⟨⟨-((c + 1).tmod n), by rw [e1]; exact HM.out, by rw [e1]; exact HL.out, rfl⟩, rfl⟩
  · have hm := Int.emod_nonneg c (b := n) (by omega)
    have hl := Int.emod_lt_of_pos c h3
    have HM := Hid.mk2 hm
    have HL := Hid.mk2 hl
    clear hm hl
    go_enter Tryz.func9, Tryz.ntmps9
    go_wp2
    all_goals go_ret
    exact ⟨⟨c % n, HM.out, HL.out, rfl⟩, rfl⟩
theorem Blk.drewN {w : World} {b : Nat} {cs : Array Value} {t : TypeId} (h : Blk w b cs t) (n : Nat) : Blk (w.drewN n) b cs t := h
structure But (fb : Nat) (w w' : World) : Prop where
  os : w'.os = w.os
  tape : w'.tape = w.tape
  output : w'.output = w.output
  size : w.heap.size ≤ w'.heap.size
  block : ∀ k, k ≠ fb → k < w.heap.size → w'.heap[k]? = w.heap[k]?
theorem But.refl (fb : Nat) (w : World) : But fb w w := ⟨rfl, rfl, rfl, Nat.le_refl _, fun _ _ _ => rfl⟩
theorem But.trans {fb : Nat} {w w1 w2 : World} (h : But fb w w1) (g : But fb w1 w2) : But fb w w2 :=
  ⟨g.os.trans h.os, g.tape.trans h.tape, g.output.trans h.output, Nat.le_trans h.size g.size, fun k h1 h2 => (g.block k h1 (Nat.lt_of_lt_of_le h2 h.size)).trans (h.block k h1 h2)⟩
theorem But.of {fb : Nat} {w w' : World} (h : Below w.heap.size w w') : But fb w w' := ⟨h.os, h.tape, h.output, h.size, fun k _ h2 => h.block k h2⟩
theorem But.below {fb B : Nat} {w w' : World} (h : But fb w w') (h1 : B ≤ fb) (h2 : B ≤ w.heap.size) : Below B w w' := ⟨h.os, h.tape, h.output, h.size, fun k hk => h.block k (by omega) (by omega)⟩
theorem Blk.but {w w' : World} {b fb : Nat} {cs : Array Value} {t : TypeId} (h : Blk w b cs t) (hb : But fb w w') (hne : b ≠ fb) : Blk w' b cs t := (hb.block b hne h.lt).trans h
theorem But.set {w : World} (fb i : Nat) (v : Value) (h : fb < w.heap.size) : But fb w (w.setCell ⟨fb, i, none⟩ v) := by
  have g := (Below.refl fb w).setCell (p := ⟨fb, i, none⟩) (Nat.le_refl _) v
  exact ⟨g.os, g.tape, g.output, g.size, fun k h1 _ => Below.heap_setCell _ _ _ _ h1⟩
structure FeedAt (w : World) (fb : Nat) : Prop where
  ok : ∃ (s : ByteArray) (k : Nat), Blk w fb #[.string s, .int .i64 k] 35 ∧ k ≤ s.size ∧ s.size ≤ maxLen
theorem FeedAt.below {w w' : World} {fb : Nat} (h : FeedAt w fb) (hb : Below w.heap.size w w') : FeedAt w' fb := by
  obtain ⟨s, k, h1, h2⟩ := h.ok
  exact ⟨s, k, h1.below hb h1.lt, h2⟩
set_option maxHeartbeats 1000000 in
theorem next_any (n : Int) (hn : 0 < n ∧ n ≤ 2000) (fb : Nat) (w : World) (h : FeedAt w fb) :
    Calls Tryz.prog 29 #[.pointer (some ⟨fb, 0, none⟩), .int .i64 n] w fun e w' => (∃ r : Int, 0 ≤ r ∧ r < n ∧ e = .returned (.int .i64 r)) ∧ FeedAt w' fb ∧ But fb w w' := by
  obtain ⟨s, k, hb, hk, hs⟩ := h.ok
  have HB := Hid.mk2 hb
  have HFd := Hid.mk2 h
  have c0 := hb.cell 0
  have c1 := hb.cell 1
  have f1 := hb.free 1
  have hs' : (s.size : Int) ≤ 9223372036854775807 := by have h := hs; simp [maxLen] at h; omega
  obtain ⟨h3, h4⟩ := hn
  have en : (n == 0) = false := by simp; omega
  have HSm := Hid.mk2 hs
  clear h hb hs
  by_cases hlt : k < s.size
  · have hix := fun wx => run_index_nat (P := Tryz.prog) wx 9 s .i64 (k : Int) k Tryz.underlying9 rfl hlt
    obtain ⟨c, hc⟩ : ∃ c, c = s[k].toNat := ⟨_, rfl⟩
    have hc256 : c < 256 := by rw [hc]; exact UInt8.toNat_lt _
    rw [← hc] at hix
    have hm := Int.emod_nonneg (c : Int) (b := n) (by omega)
    have hl := Int.emod_lt_of_pos (c : Int) h3
    have HM := Hid.mk2 hm
    have HL := Hid.mk2 hl
    have dk : decide ((s.size : Int) ≤ (k : Int)) = false := by simp; omega
    clear hc hm hl
    go_enter Tryz.func29, Tryz.ntmps29
    go_wp2
    go_quiet (fail)
    go_wp2
    go_quiet (fail)
    go_wp2
    go_ret
    exact ⟨⟨_, HM.out, HL.out, rfl⟩, ⟨s, k + 1, (HB.out.drewN _).set 1 _, by omega, HSm.out⟩, (But.of (below_drewN (Below.refl _ w) _)).trans (But.set fb 1 _ HB.out.lt)⟩
  · have dk : decide ((s.size : Int) ≤ (k : Int)) = true := by simp; omega
    go_enter Tryz.func29, Tryz.ntmps29
    go_wp2
    go_quiet (fail)
    go_wp2
    go_ret
    exact ⟨⟨0, Int.le_refl _, h3, rfl⟩, ⟨s, k, HB.out.drewN _, hk, HSm.out⟩, But.of (below_drewN (Below.refl _ w) _)⟩
end Go.Proofs.YtjjbmbjmdgoofaaGreatDoor
namespace Go.Proofs.YtjjbmbjmdgoofaaGreatDoor
open Go.RowKit
end Go.Proofs.YtjjbmbjmdgoofaaGreatDoor
namespace Go.Proofs.YtjjbmbjmdgoofaaGreatDoor
open Go.RowKit
end Go.Proofs.YtjjbmbjmdgoofaaGreatDoor
namespace Go.Proofs.YtjjbmbjmdgoofaaGreatDoor
open Go.RowKit
end Go.Proofs.YtjjbmbjmdgoofaaGreatDoor
namespace Go.Proofs.YtjjbmbjmdgoofaaGreatDoor
open Go.RowKit
end Go.Proofs.YtjjbmbjmdgoofaaGreatDoor
namespace Go.Proofs.YtjjbmbjmdgoofaaGreatDoor
open Go.RowKit
end Go.Proofs.YtjjbmbjmdgoofaaGreatDoor
namespace Go.Proofs.YtjjbmbjmdgoofaaGreatDoor
open Go.RowKit
end Go.Proofs.YtjjbmbjmdgoofaaGreatDoor
namespace Go.Proofs.YtjjbmbjmdgoofaaGreatDoor
open Go.RowKit
end Go.Proofs.YtjjbmbjmdgoofaaGreatDoor
namespace Go.Proofs.YtjjbmbjmdgoofaaGreatDoor
open Go.RowKit
end Go.Proofs.YtjjbmbjmdgoofaaGreatDoor
namespace Go.Proofs.YtjjbmbjmdgoofaaGreatDoor
open Go.RowKit
end Go.Proofs.YtjjbmbjmdgoofaaGreatDoor
namespace Go.Proofs.YtjjbmbjmdgoofaaGreatDoor
open Go.RowKit Go.Deep
end Go.Proofs.YtjjbmbjmdgoofaaGreatDoor
namespace Go.Proofs.YtjjbmbjmdgoofaaGreatDoor
open Go.RowKit Go.Deep
end Go.Proofs.YtjjbmbjmdgoofaaGreatDoor
namespace Go.Proofs.YtjjbmbjmdgoofaaGreatDoor
open Go.RowKit Go.Deep
end Go.Proofs.YtjjbmbjmdgoofaaGreatDoor
namespace Go.Proofs.YtjjbmbjmdgoofaaGreatDoor
open Go.RowKit Go.Deep
end Go.Proofs.YtjjbmbjmdgoofaaGreatDoor
namespace Go.Proofs.YtjjbmbjmdgoofaaGreatDoor
open Go.RowKit Go.Deep
end Go.Proofs.YtjjbmbjmdgoofaaGreatDoor
namespace Go.Proofs.YtjjbmbjmdgoofaaGreatDoor
open Go.RowKit Go.Deep
end Go.Proofs.YtjjbmbjmdgoofaaGreatDoor
namespace Go.Proofs.YtjjbmbjmdgoofaaGreatDoor
open Go.RowKit Go.Deep
end Go.Proofs.YtjjbmbjmdgoofaaGreatDoor
namespace Go.Proofs.YtjjbmbjmdgoofaaGreatDoor
open Go.RowKit Go.Deep
end Go.Proofs.YtjjbmbjmdgoofaaGreatDoor
namespace Go.Proofs.YtjjbmbjmdgoofaaGreatDoor
open Go.RowKit Go.Deep
end Go.Proofs.YtjjbmbjmdgoofaaGreatDoor
namespace Go.Proofs.YtjjbmbjmdgoofaaGreatDoor
open Go.RowKit Go.Deep
end Go.Proofs.YtjjbmbjmdgoofaaGreatDoor
namespace Go.Proofs.YtjjbmbjmdgoofaaGreatDoor
open Go.RowKit Go.Deep
end Go.Proofs.YtjjbmbjmdgoofaaGreatDoor
namespace Go.Proofs.YtjjbmbjmdgoofaaGreatDoor
open Go.RowKit Go.Deep
end Go.Proofs.YtjjbmbjmdgoofaaGreatDoor
namespace Go.Proofs.YtjjbmbjmdgoofaaGreatDoor
open Go.RowKit Go.Deep
end Go.Proofs.YtjjbmbjmdgoofaaGreatDoor
namespace Go.Proofs.YtjjbmbjmdgoofaaGreatDoor
open Go.RowKit Go.Deep
end Go.Proofs.YtjjbmbjmdgoofaaGreatDoor
namespace Go.Proofs.YtjjbmbjmdgoofaaGreatDoor
open Go.RowKit Go.Deep
end Go.Proofs.YtjjbmbjmdgoofaaGreatDoor
namespace Go.Proofs.YtjjbmbjmdgoofaaGreatDoor
open Go.RowKit Go.Deep
where sets2' {w wr : World} {fb i j : Nat} {a b : Value} (h : Below w.heap.size w wr) (hf : w.heap.size < fb) : Below w.heap.size w ((wr.setCell ⟨fb, i, none⟩ a).setCell ⟨fb, j, none⟩ b) :=
  (h.setCell (p := ⟨fb, i, none⟩) (Nat.le_of_lt hf) a).setCell (p := ⟨fb, j, none⟩) (Nat.le_of_lt hf) b
end Go.Proofs.YtjjbmbjmdgoofaaGreatDoor
namespace Go.Proofs.YtjjbmbjmdgoofaaGreatDoor
open Go.RowKit Go.Deep
end Go.Proofs.YtjjbmbjmdgoofaaGreatDoor
namespace Go.Proofs.YtjjbmbjmdgoofaaGreatDoor
open Go.RowKit Go.Deep
end Go.Proofs.YtjjbmbjmdgoofaaGreatDoor
namespace Go.Proofs.YtjjbmbjmdgoofaaGreatDoor
open Go.RowKit Go.Deep
end Go.Proofs.YtjjbmbjmdgoofaaGreatDoor
namespace Go.Proofs.YtjjbmbjmdgoofaaGreatDoor
open Go.RowKit Go.Deep
end Go.Proofs.YtjjbmbjmdgoofaaGreatDoor
namespace Go.Proofs.YtjjbmbjmdgoofaaGreatDoor
end Go.Proofs.YtjjbmbjmdgoofaaGreatDoor
namespace Go.Proofs.YtjjbmbjmdgoofaaGreatDoor
open Go.RowKit Go.Deep
end Go.Proofs.YtjjbmbjmdgoofaaGreatDoor
namespace Go.Proofs.YtjjbmbjmdgoofaaGreatDoor
open Go.RowKit Go.Deep
end Go.Proofs.YtjjbmbjmdgoofaaGreatDoor
namespace Go.Proofs.YtjjbmbjmdgoofaaGreatDoor
end Go.Proofs.YtjjbmbjmdgoofaaGreatDoor
namespace Go.Proofs.YtjjbmbjmdgoofaaGreatDoor
end Go.Proofs.YtjjbmbjmdgoofaaGreatDoor
namespace Go.Proofs.YtjjbmbjmdgoofaaGreatDoor
end Go.Proofs.YtjjbmbjmdgoofaaGreatDoor
namespace Go.Proofs.YtjjbmbjmdgoofaaGreatDoor
end Go.Proofs.YtjjbmbjmdgoofaaGreatDoor
namespace Go.Proofs.YtjjbmbjmdgoofaaGreatDoor
end Go.Proofs.YtjjbmbjmdgoofaaGreatDoor
namespace Go.Proofs.YtjjbmbjmdgoofaaGreatDoor
end Go.Proofs.YtjjbmbjmdgoofaaGreatDoor
namespace Go.Proofs.YtjjbmbjmdgoofaaGreatDoor
end Go.Proofs.YtjjbmbjmdgoofaaGreatDoor
namespace Go.Proofs.YtjjbmbjmdgoofaaGreatDoor
def Ends (s : ByteArray) (x : Itm) (y : Bn) (p : Nat) (r : Nat × Int × Nat) : Prop := ∀ f n, r.2.2 ≤ f → runM s x y f p [] n = (r.1, r.2.1, n + r.2.2)
end Go.Proofs.YtjjbmbjmdgoofaaGreatDoor
namespace Go.Proofs.YtjjbmbjmdgoofaaGreatDoor
section
variable (ls : List PLet) (N : List PNode) (x : Itm) (y : Bn)
end
end Go.Proofs.YtjjbmbjmdgoofaaGreatDoor
namespace Go.Proofs.YtjjbmbjmdgoofaaGreatDoor
open Go.RowKit Go.Deep
end Go.Proofs.YtjjbmbjmdgoofaaGreatDoor
namespace Go.Proofs.YtjjbmbjmdgoofaaGreatDoor
open Go.RowKit Go.Deep
end Go.Proofs.YtjjbmbjmdgoofaaGreatDoor
namespace Go.Proofs.YtjjbmbjmdgoofaaGreatDoor
open Go.RowKit
end Go.Proofs.YtjjbmbjmdgoofaaGreatDoor
namespace Go.Proofs.YtjjbmbjmdgoofaaGreatDoor
open Go.RowKit
end Go.Proofs.YtjjbmbjmdgoofaaGreatDoor
namespace Go.Proofs.YtjjbmbjmdgoofaaGreatDoor
open Go.RowKit
end Go.Proofs.YtjjbmbjmdgoofaaGreatDoor
namespace Go.Proofs.YtjjbmbjmdgoofaaGreatDoor
open Go.RowKit
end Go.Proofs.YtjjbmbjmdgoofaaGreatDoor
namespace Go.Proofs.YtjjbmbjmdgoofaaGreatDoor
open Go.RowKit
end Go.Proofs.YtjjbmbjmdgoofaaGreatDoor
namespace Go.Proofs.YtjjbmbjmdgoofaaGreatDoor
open Go.RowKit
end Go.Proofs.YtjjbmbjmdgoofaaGreatDoor
namespace Go.Proofs.YtjjbmbjmdgoofaaGreatDoor
open Go.RowKit
end Go.Proofs.YtjjbmbjmdgoofaaGreatDoor
namespace Go.Proofs.YtjjbmbjmdgoofaaGreatDoor
open Go.RowKit
section
variable {w w' : World} {mb : Nat} {x : Itm} {y : Bn} {sv : Value} {st : List Int} {p : Nat} {en : Bool} {k v n : Int}
end
end Go.Proofs.YtjjbmbjmdgoofaaGreatDoor
namespace Go.Proofs.YtjjbmbjmdgoofaaGreatDoor
open Go.RowKit
end Go.Proofs.YtjjbmbjmdgoofaaGreatDoor
