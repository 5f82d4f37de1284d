/-
  Images of known making: leaves, operations of one and of two numbers, choices: each does what it is worth, with heights up to its own; plain.
-/
import Derived.Test.YtbdjcffmpbjjlaaDoorBlo
import Derived.Test.YtbdjcffmpbjjlaaDoorSeg
set_option linter.unusedVariables false
set_option linter.unusedSimpArgs false
namespace Go.Proofs.YtbdjcffmpbjjlaaDoor
open Go.RowKit

/-- A block: its bytes; its number, or its fault; its steps; how high it makes the stack. -/
structure PB where
  code : List Nat
  v : Int
  flt : Nat
  steps : Nat
  high : Nat
/-- It is what it says, wherever it stands. -/
structure PB.Ok (x : Itm) (y : Bn) (b : PB) : Prop where
  does : ∀ s p, Sits s p b.code → DoesSo s x y p (p + b.code.length) b.v b.flt b.steps
  seg : ∀ s p (h : Int), Sits s p b.code → 0 ≤ h → ∃ l H, Seg s p (p + b.code.length) h (h + 1) (h + b.high) l H
  num : In64 b.v
  le2 : b.flt ≤ 2
  pos : 1 ≤ b.high
theorem Sits.at {s : ByteArray} {p : Nat} {c : List Nat} (h : Sits s p c) {i b : Nat} (hi : c[i]? = some b) : bt s (p + i) = b := (h i b hi).2
theorem Sits.head {s : ByteArray} {p b : Nat} {c : List Nat} (h : Sits s p (b :: c)) : p < s.size ∧ bt s p = b := by
  have := h 0 b rfl
  simpa using this
theorem Seg.cast {s : ByteArray} {p q q' : Nat} {h e e' hi hi' : Int} {l : List Ins} {H : Nat → Int} (g : Seg s p q h e hi l H) (hq : q = q') (he : e = e') (hh : hi = hi') : Seg s p q' h e' hi' l H := by subst hq; subst he; subst hh; exact g
/-- An operation without bytes behind it. -/
theorem bare_op {s : ByteArray} {p n : Nat} (hs : Sits s p [n]) (hn : 2 ≤ n ∧ n ≤ 12) : OpOkI s p ∧ (mkIns s p).next = p + 1 ∧ bt s p = n ∧ (mkIns s p).op = n := by
  obtain ⟨h1, h2⟩ := hs.head
  have hb : behindN n = 0 := by unfold behindN; rw [if_neg (by omega), if_neg (by omega), if_neg (by omega)]
  refine ⟨⟨h1, by omega, by rw [h2, hb]; omega, by omega⟩, by simp only [mkIns, h2, hb], h2, h2⟩
theorem bare_flows {s : ByteArray} {p n : Nat} (hb : bt s p = n) (hn : 2 ≤ n ∧ n ≤ 12) : ∀ r, Flows (mkIns s p) r ↔ r = (mkIns s p).next := by
  have hop : (mkIns s p).op = n := hb
  intro r
  constructor
  · rintro (⟨_, _, _, h⟩ | ⟨h, _⟩)
    · exact h
    · rw [hop] at h; omega
  · intro h
    exact .inl ⟨by omega, by omega, by omega, h⟩
/-- The operation of one number. -/
def oneP (n : Nat) (p : PB) : PB :=
  if p.flt ≠ 0 then { p with code := p.code ++ [n] }
  else if n = 3 then { code := p.code ++ [n], v := bitN (decide (p.v = 0)), flt := 0, steps := p.steps + 1, high := p.high }
  else { code := p.code ++ [n], v := (negN p.v).1, flt := (negN p.v).2, steps := p.steps + 1, high := p.high }
theorem one_seg {s : ByteArray} {p n : Nat} {h : Int} {b : PB} {x : Itm} {y : Bn} (hb : b.Ok x y) (hn : n = 2 ∨ n = 3) (hs : Sits s p (b.code ++ [n])) (hh : 0 ≤ h) : ∃ l H, Seg s p (p + (b.code ++ [n]).length) h (h + 1) (h + b.high) l H := by
  obtain ⟨l, H, g⟩ := hb.seg s p h hs.left hh
  obtain ⟨h1, h2, h3, h4⟩ := bare_op hs.right (by omega)
  have ht : takesN n = 1 ∧ laysN n = 1 := by rcases hn with rfl | rfl <;> exact ⟨rfl, rfl⟩
  have g2 := seg_op (h := h + 1) h1 (by rw [h3, ht.1]; omega) (bare_flows h3 (by omega))
  rw [h3, ht.1, ht.2] at g2
  have hp := hb.pos
  exact ⟨_, _, (g.seq (g2.cast rfl rfl rfl)).cast (by rw [h2]; simp; omega) (by omega) (by omega)⟩
theorem oneP_ok {x : Itm} {y : Bn} {b : PB} (hb : b.Ok x y) {n : Nat} (hn : n = 2 ∨ n = 3) : (oneP n b).Ok x y := by
  have hnum := hb.num
  by_cases hf : b.flt ≠ 0
  · have e : oneP n b = { b with code := b.code ++ [n] } := by unfold oneP; rw [if_pos hf]
    rw [e]
    exact ⟨fun s p hs => (hb.does s p hs.left).fault hf, fun s p h hs hh => one_seg hb hn hs hh, hb.num, hb.le2, hb.pos⟩
  · have hf0 : b.flt = 0 := by omega
    have hd : ∀ s p, Sits s p (b.code ++ [n]) → DoesSo s x y p (p + b.code.length) b.v 0 b.steps := fun s p hs => by have := hb.does s p hs.left; rw [hf0] at this; exact this
    rcases hn with rfl | rfl
    · have e : oneP 2 b = { code := b.code ++ [2], v := (negN b.v).1, flt := (negN b.v).2, steps := b.steps + 1, high := b.high } := by unfold oneP; rw [if_neg hf]; rfl
      rw [e]
      refine ⟨fun s p hs => ?_, fun s p h hs hh => one_seg hb (.inl rfl) hs hh, neg_in _, by unfold negN exact64; show (if _ then _ else _ : Int × Nat).2 ≤ 2; split <;> simp, hb.pos⟩
      obtain ⟨h1, h2, h3, h4⟩ := bare_op hs.right (by omega)
      refine (hd s p hs).unary (fun st => ?_)
      have : p + (b.code ++ [2]).length = (mkIns s (p + b.code.length)).next := by rw [h2]; simp; omega
      rw [this]
      unfold stepM
      rw [h4]
      rfl
    · have e : oneP 3 b = { code := b.code ++ [3], v := bitN (decide (b.v = 0)), flt := 0, steps := b.steps + 1, high := b.high } := by unfold oneP; rw [if_neg hf]; rfl
      rw [e]
      refine ⟨fun s p hs => ?_, fun s p h hs hh => one_seg hb (.inr rfl) hs hh, by show In64 (bitN _); unfold bitN; split <;> decide, by simp, hb.pos⟩
      obtain ⟨h1, h2, h3, h4⟩ := bare_op hs.right (by omega)
      refine (hd s p hs).unary (fun st => ?_)
      have : p + (b.code ++ [3]).length = (mkIns s (p + b.code.length)).next := by rw [h2]; simp; omega
      rw [this]
      unfold stepM
      rw [h4]
      rfl
end Go.Proofs.YtbdjcffmpbjjlaaDoor
