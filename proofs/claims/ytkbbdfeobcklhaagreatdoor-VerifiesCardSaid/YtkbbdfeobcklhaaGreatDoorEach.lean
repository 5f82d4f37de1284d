/-
  A script in memory; each of its steps held against the document: each answers true, where every step of that kind does.
-/
import Derived.Test.YtkbbdfeobcklhaaGreatDoorProg
import Derived.Test.YtkbbdfeobcklhaaGreatDoorKit
import Derived.Test.YtkbbdfeobcklhaaGreatDoorMach
set_option linter.unusedVariables false
set_option linter.unusedSimpArgs false
namespace Go.Proofs.YtkbbdfeobcklhaaGreatDoor
open Go.RowKit

/-- One step of a script. -/
structure Opr where
  kind : Int
  at' : Int
  a : Int
  b : Int
  s : ByteArray
  x : Itm
  y : Bn
def itmV (x : Itm) : Value := .agg #[.int .i64 x.size, .int .i64 x.speed, .int .i64 x.need]
def bnV (y : Bn) : Value := .agg #[.int .i64 y.id, .int .i64 y.zone, .int .i64 y.cap, .int .i64 y.used, .int .i64 y.has]
def oprV (o : Opr) : Value := .agg #[.int .i64 o.kind, .int .i64 o.at', .int .i64 o.a, .int .i64 o.b, .string o.s, .int .i64 o.x.size, .int .i64 o.x.speed, .int .i64 o.x.need, .int .i64 o.y.id, .int .i64 o.y.zone, .int .i64 o.y.cap, .int .i64 o.y.used, .int .i64 o.y.has]
def oprCells (o : Opr) : List Value := [.int .i64 o.kind, .int .i64 o.at', .int .i64 o.a, .int .i64 o.b, .string o.s, .int .i64 o.x.size, .int .i64 o.x.speed, .int .i64 o.x.need, .int .i64 o.y.id, .int .i64 o.y.zone, .int .i64 o.y.cap, .int .i64 o.y.used, .int .i64 o.y.has]
/-- What is asked of the steps' texts. -/
def Opr.Fit (o : Opr) : Prop := o.s.size ≤ maxLen
/-- A script in memory. -/
def Script (w : World) (v : Value) (n : Nat) (os : Nat → Opr) : Prop :=
  ((∃ a c, v = .slice a 0 c) ∧ n = 0) ∨ ∃ b off cap, v = .slice (some ⟨b, off, none⟩) n cap ∧ b < w.heap.size ∧ ∀ i, i < n → (os i).Fit ∧ ∀ j u, (oprCells (os i))[j]? = some u → w.cell? ⟨b, off + i * 13 + j, none⟩ = some u

set_option maxHeartbeats 1000000 in
set_option maxRecDepth 10000 in
theorem each_any (G : World → Prop) (hG : ∀ w w', G w → Below w.heap.size w w' → G w') (K : Int) (n : Nat) (hn : n ≤ maxLen) (v : Value) (os : Nat → Opr) (w : World) (hs : Script w v n os) (hg : G w)
    (hal : ∀ o : Opr, o.Fit → o.kind = K → ∀ w, G w → Calls Tryz.prog 7 #[oprV o] w fun e w' => Below w.heap.size w w' ∧ e = .returned (.bool true)) :
    Calls Tryz.prog 6 #[v, .int .i64 K] w fun e w' => Below w.heap.size w w' ∧ e = .returned (.bool true) := by
  have hn' : (n : Int) ≤ 9223372036854775807 := by have h := hn; simp [maxLen] at h; omega
  rcases hs with ⟨⟨a0, c0, rfl⟩, rfl⟩ | ⟨b, off, cap, rfl, hlt, hc⟩
  · go_enter Tryz.func6, Tryz.ntmps6
    go_wp2
    refine wp_loop_rounds 1 ?_; rw [rounds_succ]
    go_wp2
    go_ret
    exact ⟨Below.refl _ _, rfl⟩
  have HC : Hid (∀ i, i < n → (os i).Fit ∧ ∀ j u, (oprCells (os i))[j]? = some u → w.cell? ⟨b, off + i * 13 + j, none⟩ = some u) := hc
  have HG : Hid (G w) := hg
  have HA : Hid (∀ o : Opr, o.Fit → o.kind = K → ∀ w, G w → Calls Tryz.prog 7 #[oprV o] w fun e w' => Below w.heap.size w w' ∧ e = .returned (.bool true)) := hal
  clear hc hg hal hn
  go_enter Tryz.func6, Tryz.ntmps6
  go_wp2
  go_loopw [5] (fun vi wx => ∃ i : Nat, i ≤ n ∧ vi = .int .i64 i ∧ Below w.heap.size w wx) (fun i _ => n - (intOf i).toNat)
  case atStart => exact ⟨0, Nat.zero_le _, rfl, Below.refl _ _⟩
  case round =>
    obtain ⟨i, hil, rfl, hbl⟩ := hrel
    by_cases hi : i < n
    case neg =>
      go_wp2
      go_ret
      exact ⟨hbl, rfl⟩
    obtain ⟨hfit, hcell⟩ := HC.out i hi
    have hx : ∀ j u, (oprCells (os i))[j]? = some u → wr.cell? ⟨b, off + i * 13 + j, none⟩ = some u := fun j u h => (hbl.cell (p := ⟨b, off + i * 13 + j, none⟩) hlt).trans (hcell j u h)
    obtain ⟨o, ho⟩ : ∃ o, o = os i := ⟨_, rfl⟩
    rw [← ho] at hx hfit
    have HF : Hid o.Fit := hfit
    have c0 : wr.cell? ⟨b, off + i * 13, none⟩ = some (.int .i64 o.kind) := hx 0 _ rfl
    have c1 : wr.cell? ⟨b, off + i * 13 + 1, none⟩ = some (.int .i64 o.at') := hx 1 _ rfl
    have c2 : wr.cell? ⟨b, off + i * 13 + 2, none⟩ = some (.int .i64 o.a) := hx 2 _ rfl
    have c3 : wr.cell? ⟨b, off + i * 13 + 3, none⟩ = some (.int .i64 o.b) := hx 3 _ rfl
    have c4 : wr.cell? ⟨b, off + i * 13 + 4, none⟩ = some (.string o.s) := hx 4 _ rfl
    have c5 : wr.cell? ⟨b, off + i * 13 + 5, none⟩ = some (.int .i64 o.x.size) := hx 5 _ rfl
    have c6 : wr.cell? ⟨b, off + i * 13 + 6, none⟩ = some (.int .i64 o.x.speed) := hx 6 _ rfl
    have c7 : wr.cell? ⟨b, off + i * 13 + 7, none⟩ = some (.int .i64 o.x.need) := hx 7 _ rfl
    have c8 : wr.cell? ⟨b, off + i * 13 + 8, none⟩ = some (.int .i64 o.y.id) := hx 8 _ rfl
    have c9 : wr.cell? ⟨b, off + i * 13 + 9, none⟩ = some (.int .i64 o.y.zone) := hx 9 _ rfl
    have c10 : wr.cell? ⟨b, off + i * 13 + 10, none⟩ = some (.int .i64 o.y.cap) := hx 10 _ rfl
    have c11 : wr.cell? ⟨b, off + i * 13 + 11, none⟩ = some (.int .i64 o.y.used) := hx 11 _ rfl
    have c12 : wr.cell? ⟨b, off + i * 13 + 12, none⟩ = some (.int .i64 o.y.has) := hx 12 _ rfl
    clear hx hcell ho hfit
    by_cases hk : o.kind = K
    · have HK : Hid (o.kind = K) := hk
      have hkb : (o.kind == K) = true := by simpa using hk
      clear hk
      go_wp2_with (go_at_call 7; refine (HA.out o HF.out HK.out _ (hG _ _ HG.out hbl)).mono ?_; rintro e w1 ⟨hb1, rfl⟩)
      go_roundw
      case rel => exact ⟨i + 1, by omega, by go_num, hbl.trans (hb1.mono hbl.size)⟩
      case measure => simp [intOf]; omega
    · have hkb : (o.kind == K) = false := by simpa using hk
      clear hk
      go_wp2
      go_roundw
      case rel => exact ⟨i + 1, by omega, by go_num, hbl⟩
      case measure => simp [intOf]; omega
end Go.Proofs.YtkbbdfeobcklhaaGreatDoor
