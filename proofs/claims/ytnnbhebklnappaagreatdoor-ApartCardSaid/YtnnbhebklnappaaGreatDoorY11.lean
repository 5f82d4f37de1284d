/-
  Images of known making: leaves, operations of one and of two numbers, choices: each does what it is worth, with heights up to its own; plain.
  Images of known making: operations of two numbers, and choices; plain.
  Images of known making: leaves; the whole image; and what is none: plain.
-/
import Derived.Test.YtnnbhebklnappaaGreatDoorY09
import Derived.Test.YtnnbhebklnappaaGreatDoorY10
set_option linter.unusedVariables false
set_option linter.unusedSimpArgs false
namespace Go.Proofs.YtnnbhebklnappaaGreatDoor
open Go.RowKit

/-- A block: its bytes; its number, or its fault; its steps; how high it makes the stack. -/
structure PB where
  code : List Nat
  v : Int
  flt : Nat
  steps : Nat
  high : Nat
/-- It is what it says, wherever it stands. -/
structure PB.Ok (x : Itm) (y : Bn) (b : PB) : Prop where
  does : ∀ s p, Sits s p b.code → DoesSo s x y p (p + b.code.length) b.v b.flt b.steps
  seg : ∀ s p (h : Int), Sits s p b.code → 0 ≤ h → ∃ l H, Seg s p (p + b.code.length) h (h + 1) (h + b.high) l H
  num : In64 b.v
  le2 : b.flt ≤ 2
  pos : 1 ≤ b.high
theorem Sits.at {s : ByteArray} {p : Nat} {c : List Nat} (h : Sits s p c) {i b : Nat} (hi : c[i]? = some b) : bt s (p + i) = b := (h i b hi).2
theorem Sits.head {s : ByteArray} {p b : Nat} {c : List Nat} (h : Sits s p (b :: c)) : p < s.size ∧ bt s p = b := by
  have := h 0 b rfl
  simpa using this
theorem Seg.cast {s : ByteArray} {p q q' : Nat} {h e e' hi hi' : Int} {l : List Ins} {H : Nat → Int} (g : Seg s p q h e hi l H) (hq : q = q') (he : e = e') (hh : hi = hi') : Seg s p q' h e' hi' l H := by subst hq; subst he; subst hh; exact g
/-- An operation without bytes behind it. -/
theorem bare_op {s : ByteArray} {p n : Nat} (hs : Sits s p [n]) (hn : 2 ≤ n ∧ n ≤ 12) : OpOkI s p ∧ (mkIns s p).next = p + 1 ∧ bt s p = n ∧ (mkIns s p).op = n := by
  obtain ⟨h1, h2⟩ := hs.head
  have hb : behindN n = 0 := by unfold behindN; rw [if_neg (by omega), if_neg (by omega), if_neg (by omega)]
  refine ⟨⟨h1, by omega, by rw [h2, hb]; omega, by omega⟩, by simp only [mkIns, h2, hb], h2, h2⟩
theorem bare_flows {s : ByteArray} {p n : Nat} (hb : bt s p = n) (hn : 2 ≤ n ∧ n ≤ 12) : ∀ r, Flows (mkIns s p) r ↔ r = (mkIns s p).next := by
  have hop : (mkIns s p).op = n := hb
  intro r
  constructor
  · rintro (⟨_, _, _, h⟩ | ⟨h, _⟩)
    · exact h
    · rw [hop] at h; omega
  · intro h
    exact .inl ⟨by omega, by omega, by omega, h⟩
/-- The operation of one number. -/
def oneP (n : Nat) (p : PB) : PB :=
  if p.flt ≠ 0 then { p with code := p.code ++ [n] }
  else if n = 3 then { code := p.code ++ [n], v := bitN (decide (p.v = 0)), flt := 0, steps := p.steps + 1, high := p.high }
  else { code := p.code ++ [n], v := (negN p.v).1, flt := (negN p.v).2, steps := p.steps + 1, high := p.high }
theorem one_seg {s : ByteArray} {p n : Nat} {h : Int} {b : PB} {x : Itm} {y : Bn} (hb : b.Ok x y) (hn : n = 2 ∨ n = 3) (hs : Sits s p (b.code ++ [n])) (hh : 0 ≤ h) : ∃ l H, Seg s p (p + (b.code ++ [n]).length) h (h + 1) (h + b.high) l H := by
  obtain ⟨l, H, g⟩ := hb.seg s p h hs.left hh
  obtain ⟨h1, h2, h3, h4⟩ := bare_op hs.right (by omega)
  have ht : takesN n = 1 ∧ laysN n = 1 := by rcases hn with rfl | rfl <;> exact ⟨rfl, rfl⟩
  have g2 := seg_op (h := h + 1) h1 (by rw [h3, ht.1]; omega) (bare_flows h3 (by omega))
  rw [h3, ht.1, ht.2] at g2
  have hp := hb.pos
  exact ⟨_, _, (g.seq (g2.cast rfl rfl rfl)).cast (by rw [h2]; simp; omega) (by omega) (by omega)⟩
theorem oneP_ok {x : Itm} {y : Bn} {b : PB} (hb : b.Ok x y) {n : Nat} (hn : n = 2 ∨ n = 3) : (oneP n b).Ok x y := by
  have hnum := hb.num
  by_cases hf : b.flt ≠ 0
  · have e : oneP n b = { b with code := b.code ++ [n] } := by unfold oneP; rw [if_pos hf]
    rw [e]
    exact ⟨fun s p hs => (hb.does s p hs.left).fault hf, fun s p h hs hh => one_seg hb hn hs hh, hb.num, hb.le2, hb.pos⟩
  · have hf0 : b.flt = 0 := by omega
    have hd : ∀ s p, Sits s p (b.code ++ [n]) → DoesSo s x y p (p + b.code.length) b.v 0 b.steps := fun s p hs => by have := hb.does s p hs.left; rw [hf0] at this; exact this
    rcases hn with rfl | rfl
    · have e : oneP 2 b = { code := b.code ++ [2], v := (negN b.v).1, flt := (negN b.v).2, steps := b.steps + 1, high := b.high } := by unfold oneP; rw [if_neg hf]; rfl
      rw [e]
      refine ⟨fun s p hs => ?_, fun s p h hs hh => one_seg hb (.inl rfl) hs hh, neg_in _, by unfold negN exact64; show (if _ then _ else _ : Int × Nat).2 ≤ 2; split <;> simp, hb.pos⟩
      obtain ⟨h1, h2, h3, h4⟩ := bare_op hs.right (by omega)
      refine (hd s p hs).unary (fun st => ?_)
      have : p + (b.code ++ [2]).length = (mkIns s (p + b.code.length)).next := by rw [h2]; simp; omega
      rw [this]
      unfold stepM
      rw [h4]
      rfl
    · have e : oneP 3 b = { code := b.code ++ [3], v := bitN (decide (b.v = 0)), flt := 0, steps := b.steps + 1, high := b.high } := by unfold oneP; rw [if_neg hf]; rfl
      rw [e]
      refine ⟨fun s p hs => ?_, fun s p h hs hh => one_seg hb (.inr rfl) hs hh, by show In64 (bitN _); unfold bitN; split <;> decide, by simp, hb.pos⟩
      obtain ⟨h1, h2, h3, h4⟩ := bare_op hs.right (by omega)
      refine (hd s p hs).unary (fun st => ?_)
      have : p + (b.code ++ [3]).length = (mkIns s (p + b.code.length)).next := by rw [h2]; simp; omega
      rw [this]
      unfold stepM
      rw [h4]
      rfl
end Go.Proofs.YtnnbhebklnappaaGreatDoor

set_option linter.unusedVariables false
set_option linter.unusedSimpArgs false
namespace Go.Proofs.YtnnbhebklnappaaGreatDoor
open Go.RowKit

def maxN (a b : Nat) : Nat := if b ≤ a then a else b
/-- The operation of two numbers. -/
def twoP (n : Nat) (p q : PB) : PB :=
  if p.flt ≠ 0 then { code := p.code ++ q.code ++ [n], v := 0, flt := p.flt, steps := p.steps, high := maxN p.high (q.high + 1) }
  else if q.flt ≠ 0 then { code := p.code ++ q.code ++ [n], v := 0, flt := q.flt, steps := p.steps + q.steps, high := maxN p.high (q.high + 1) }
  else { code := p.code ++ q.code ++ [n], v := (joinN n p.v q.v).1, flt := (joinN n p.v q.v).2, steps := p.steps + q.steps + 1, high := maxN p.high (q.high + 1) }
theorem two_seg {s : ByteArray} {a n : Nat} {h : Int} {p q : PB} {x : Itm} {y : Bn} (hp : p.Ok x y) (hq : q.Ok x y) (hn : 4 ≤ n ∧ n ≤ 12) (hs : Sits s a (p.code ++ q.code ++ [n])) (hh : 0 ≤ h) : ∃ l H, Seg s a (a + (p.code ++ q.code ++ [n]).length) h (h + 1) (h + (maxN p.high (q.high + 1) : Nat)) l H := by
  obtain ⟨l1, H1, g1⟩ := hp.seg s a h hs.left.left hh
  obtain ⟨l2, H2, g2⟩ := hq.seg s (a + p.code.length) (h + 1) hs.left.right (by omega)
  have hs3 := hs.right
  rw [List.length_append, ← Nat.add_assoc] at hs3
  obtain ⟨h1, h2, h3, h4⟩ := bare_op hs3 (by omega)
  have ht : takesN n = 2 ∧ laysN n = 1 := ⟨by unfold takesN; rw [if_neg (by omega), if_neg (by omega)], by unfold laysN; rw [if_neg (by omega)]⟩
  have g3 := seg_op (h := h + 1 + 1) h1 (by rw [h3, ht.1]; omega) (bare_flows h3 (by omega))
  rw [h3, ht.1, ht.2] at g3
  have e1 := hp.pos
  have e2 := hq.pos
  refine ⟨_, _, ((g1.seq g2).seq g3).cast (by rw [h2]; simp; omega) (by omega) ?_⟩
  unfold maxN
  split <;> omega
theorem twoP_ok {x : Itm} {y : Bn} {p q : PB} (hp : p.Ok x y) (hq : q.Ok x y) {n : Nat} (hn : 4 ≤ n ∧ n ≤ 12) : (twoP n p q).Ok x y := by
  have hpos : 1 ≤ maxN p.high (q.high + 1) := by have := hp.pos; unfold maxN; split <;> omega
  by_cases hf : p.flt ≠ 0
  · have e : twoP n p q = { code := p.code ++ q.code ++ [n], v := 0, flt := p.flt, steps := p.steps, high := maxN p.high (q.high + 1) } := by unfold twoP; rw [if_pos hf]
    rw [e]
    exact ⟨fun s a hs => (hp.does s a hs.left.left).fault hf, fun s a h hs hh => two_seg hp hq hn hs hh, (by decide : In64 (0 : Int)), hp.le2, hpos⟩
  have hf0 : p.flt = 0 := by omega
  have hd : ∀ s a, Sits s a (p.code ++ q.code ++ [n]) → DoesSo s x y a (a + p.code.length) p.v 0 p.steps := fun s a hs => by have := hp.does s a hs.left.left; rw [hf0] at this; exact this
  by_cases hg : q.flt ≠ 0
  · have e : twoP n p q = { code := p.code ++ q.code ++ [n], v := 0, flt := q.flt, steps := p.steps + q.steps, high := maxN p.high (q.high + 1) } := by unfold twoP; rw [if_neg hf, if_pos hg]
    rw [e]
    exact ⟨fun s a hs => (hd s a hs).second (hq.does s _ hs.left.right) hg, fun s a h hs hh => two_seg hp hq hn hs hh, (by decide : In64 (0 : Int)), hq.le2, hpos⟩
  have hg0 : q.flt = 0 := by omega
  have e : twoP n p q = { code := p.code ++ q.code ++ [n], v := (joinN n p.v q.v).1, flt := (joinN n p.v q.v).2, steps := p.steps + q.steps + 1, high := maxN p.high (q.high + 1) } := by unfold twoP; rw [if_neg hf, if_neg hg]
  rw [e]
  refine ⟨fun s a hs => ?_, fun s a h hs hh => two_seg hp hq hn hs hh, join_in _ _ _ hp.num hq.num, ?_, hpos⟩
  · have h2 := hq.does s _ hs.left.right
    rw [hg0] at h2
    have hs3 := hs.right
    rw [List.length_append, ← Nat.add_assoc] at hs3
    obtain ⟨h1, h2', h3, h4⟩ := bare_op hs3 (by omega)
    refine (hd s a hs).binary h2 (fun st => ?_)
    have : a + (p.code ++ q.code ++ [n]).length = (mkIns s (a + p.code.length + q.code.length)).next := by rw [h2']; simp; omega
    rw [this]
    unfold stepM
    rw [h4, if_neg (by omega), if_neg (by omega), if_neg (by omega), if_neg (by omega), if_neg (by omega), if_neg (by omega), if_neg (by omega), if_neg (by omega), if_neg (by omega)]
    rfl
  · have e2 : ∀ v, (exact64 v).2 ≤ 2 := fun v => by unfold exact64; split <;> simp
    show (joinN n p.v q.v).2 ≤ 2
    unfold joinN
    (repeat' split) <;> first | exact e2 _ | simp
/-- A jump and its two bytes. -/
def jumpC (n k : Nat) : List Nat := [n, k % 256, k / 256]
theorem jump_op' {s : ByteArray} {p n k : Nat} (hs : Sits s p (jumpC n k)) (hn : n = 13 ∨ n = 14 ∨ n = 15) (hk : k < 65536) : OpOkI s p ∧ (mkIns s p).next = p + 3 ∧ bt s p = n ∧ (mkIns s p).op = n ∧ (mkIns s p).to = p + 3 + k ∧ (mkIns s p).arg = k := by
  obtain ⟨h1, h2⟩ := hs.head
  have b1 := hs 1 (k % 256) rfl
  have b2 := hs 2 (k / 256) rfl
  have hb : behindN n = 2 := by unfold behindN; rcases hn with rfl | rfl | rfl <;> rfl
  have hnx : (mkIns s p).next = p + 3 := by simp only [mkIns, h2, hb]
  have harg : (mkIns s p).arg = k := by
    rw [jump_arg s p (by show bt s p = 13 ∨ bt s p = 14 ∨ bt s p = 15; rw [h2]; exact hn)]
    simp only [lowU]
    rw [b1.2, show p + 1 + 1 = p + 2 by omega, b2.2]
    omega
  refine ⟨⟨h1, by omega, by rw [h2, hb]; omega, by omega⟩, hnx, h2, h2, ?_, harg⟩
  unfold Ins.to
  rw [hnx, harg]
  omega
/-- A number decides which of two blocks is done. -/
def choiceC (n : Nat) (p a b : PB) : List Nat := p.code ++ (jumpC n (a.code.length + 3) ++ (a.code ++ (jumpC 13 b.code.length ++ b.code)))
def choiceH (p a b : PB) : Nat := maxN (maxN p.high a.high) b.high
def choiceP (n : Nat) (p a b : PB) : PB :=
  if p.flt ≠ 0 then { code := choiceC n p a b, v := 0, flt := p.flt, steps := p.steps, high := choiceH p a b }
  else if (decide (p.v ≠ 0)) = (decide (n = 15)) then { code := choiceC n p a b, v := b.v, flt := b.flt, steps := p.steps + 1 + b.steps, high := choiceH p a b }
  else if a.flt = 0 then { code := choiceC n p a b, v := a.v, flt := 0, steps := p.steps + 1 + (a.steps + 1), high := choiceH p a b }
  else { code := choiceC n p a b, v := a.v, flt := a.flt, steps := p.steps + 1 + a.steps, high := choiceH p a b }
/-- Where the parts of a choice stand. -/
theorem choice_parts {s : ByteArray} {o n : Nat} {p a b : PB} (hs : Sits s o (choiceC n p a b)) :
    Sits s o p.code ∧ Sits s (o + p.code.length) (jumpC n (a.code.length + 3)) ∧ Sits s (o + p.code.length + 3) a.code ∧ Sits s (o + p.code.length + 3 + a.code.length) (jumpC 13 b.code.length) ∧ Sits s (o + p.code.length + 3 + a.code.length + 3) b.code := by
  have h1 := hs.right
  have h2 := h1.right
  have e1 : (jumpC n (a.code.length + 3)).length = 3 := rfl
  rw [e1] at h2
  have h3 := h2.right
  have h4 := h3.right
  have e2 : (jumpC 13 b.code.length).length = 3 := rfl
  rw [e2] at h4
  exact ⟨hs.left, h1.left, h2.left, h3.left, h4⟩
theorem choice_len (n : Nat) (p a b : PB) (o : Nat) : o + (choiceC n p a b).length = o + p.code.length + 3 + a.code.length + 3 + b.code.length := by
  unfold choiceC jumpC
  simp
  omega
theorem choice_seg {s : ByteArray} {o n : Nat} {h : Int} {p a b : PB} {x : Itm} {y : Bn} (hp : p.Ok x y) (ha : a.Ok x y) (hb : b.Ok x y) (hn : n = 14 ∨ n = 15) (hla : a.code.length < 60000) (hlb : b.code.length < 60000) (hs : Sits s o (choiceC n p a b)) (hh : 0 ≤ h) :
    ∃ l H, Seg s o (o + (choiceC n p a b).length) h (h + 1) (h + (choiceH p a b : Nat)) l H := by
  obtain ⟨s1, s2, s3, s4, s5⟩ := choice_parts hs
  obtain ⟨l1, H1, g1⟩ := hp.seg s o h s1 hh
  obtain ⟨l2, H2, g2⟩ := ha.seg s _ h s3 hh
  obtain ⟨l3, H3, g3⟩ := hb.seg s _ h s5 hh
  obtain ⟨a1, a2, a3, a4, a5, a6⟩ := jump_op' s2 (.inr hn) (by omega)
  obtain ⟨b1, b2, b3, b4, b5, b6⟩ := jump_op' s4 (.inl rfl) (by omega)
  have g := seg_choice hh g1 a1 (by rw [a3]; exact hn) a2 (by rw [a5]; omega) g2 b1 b3 b2 b5 g3
  refine ⟨_, _, g.cast (choice_len n p a b o).symm rfl ?_⟩
  unfold choiceH maxN
  (repeat' split) <;> omega
theorem choiceP_ok {x : Itm} {y : Bn} {p a b : PB} (hp : p.Ok x y) (ha : a.Ok x y) (hb : b.Ok x y) {n : Nat} (hn : n = 14 ∨ n = 15) (hla : a.code.length < 60000) (hlb : b.code.length < 60000) : (choiceP n p a b).Ok x y := by
  have hpos : 1 ≤ choiceH p a b := by have := hp.pos; unfold choiceH maxN; (repeat' split) <;> omega
  have hsg : ∀ s o (h : Int), Sits s o (choiceC n p a b) → 0 ≤ h → ∃ l H, Seg s o (o + (choiceC n p a b).length) h (h + 1) (h + (choiceH p a b : Nat)) l H := fun s o h hs hh => choice_seg hp ha hb hn hla hlb hs hh
  by_cases hf : p.flt ≠ 0
  · have e : choiceP n p a b = { code := choiceC n p a b, v := 0, flt := p.flt, steps := p.steps, high := choiceH p a b } := by unfold choiceP; rw [if_pos hf]
    rw [e]
    exact ⟨fun s o hs => (hp.does s o (choice_parts hs).1).fault hf, hsg, (by decide : In64 (0 : Int)), hp.le2, hpos⟩
  have hf0 : p.flt = 0 := by omega
  have hd : ∀ s o, Sits s o (choiceC n p a b) → DoesSo s x y o (o + p.code.length) p.v 0 p.steps := fun s o hs => by have := hp.does s o (choice_parts hs).1; rw [hf0] at this; exact this
  have hstep : ∀ s o, Sits s o (choiceC n p a b) → ∀ st, stepM x y (mkIns s (o + p.code.length)) (p.v :: st) = .inr (if (decide (p.v ≠ 0)) = (decide (n = 15)) then o + p.code.length + 3 + a.code.length + 3 else o + p.code.length + 3, st) := by
    intro s o hs st
    obtain ⟨a1, a2, a3, a4, a5, a6⟩ := jump_op' (choice_parts hs).2.1 (.inr hn) (by omega)
    have hto : (mkIns s (o + p.code.length)).to = o + p.code.length + 3 + a.code.length + 3 := by rw [a5]; omega
    unfold stepM
    rw [a4]
    rcases hn with rfl | rfl
    · show Sum.inr ((if p.v = 0 then (mkIns s (o + p.code.length)).to else (mkIns s (o + p.code.length)).next), st) = _
      rw [hto, a2]
      by_cases hv : p.v = 0 <;> simp [hv]
    · show Sum.inr ((if p.v = 0 then (mkIns s (o + p.code.length)).next else (mkIns s (o + p.code.length)).to), st) = _
      rw [hto, a2]
      by_cases hv : p.v = 0 <;> simp [hv]
  by_cases hc : (decide (p.v ≠ 0)) = (decide (n = 15))
  · have e : choiceP n p a b = { code := choiceC n p a b, v := b.v, flt := b.flt, steps := p.steps + 1 + b.steps, high := choiceH p a b } := by unfold choiceP; rw [if_neg hf, if_pos hc]
    rw [e]
    refine ⟨fun s o hs => ?_, hsg, hb.num, hb.le2, hpos⟩
    have h2 := hb.does s _ (choice_parts hs).2.2.2.2
    rw [← choice_len n p a b o] at h2
    exact (hd s o hs).goTo (fun st => by rw [hstep s o hs st, if_pos hc]) h2
  · have hgo : ∀ s o, Sits s o (choiceC n p a b) → ∀ st, stepM x y (mkIns s (o + p.code.length)) (p.v :: st) = .inr (o + p.code.length + 3, st) := fun s o hs st => by rw [hstep s o hs st, if_neg hc]
    by_cases hg : a.flt = 0
    · have e : choiceP n p a b = { code := choiceC n p a b, v := a.v, flt := 0, steps := p.steps + 1 + (a.steps + 1), high := choiceH p a b } := by unfold choiceP; rw [if_neg hf, if_neg hc, if_pos hg]
      rw [e]
      refine ⟨fun s o hs => ?_, hsg, ha.num, by simp, hpos⟩
      have h2 := ha.does s _ (choice_parts hs).2.2.1
      rw [hg] at h2
      obtain ⟨b1, b2, b3, b4, b5, b6⟩ := jump_op' (choice_parts hs).2.2.2.1 (.inl rfl) (by omega)
      have h3 := h2.over (e := o + (choiceC n p a b).length) (fun st => by
        unfold stepM
        rw [b4]
        show Sum.inr ((mkIns s _).to, st) = _
        rw [b5, choice_len n p a b o])
      exact (hd s o hs).goTo (hgo s o hs) h3
    · have e : choiceP n p a b = { code := choiceC n p a b, v := a.v, flt := a.flt, steps := p.steps + 1 + a.steps, high := choiceH p a b } := by unfold choiceP; rw [if_neg hf, if_neg hc, if_neg hg]
      rw [e]
      refine ⟨fun s o hs => ?_, hsg, ha.num, ha.le2, hpos⟩
      exact (hd s o hs).goTo (hgo s o hs) ((ha.does s _ (choice_parts hs).2.2.1).fault hg)
end Go.Proofs.YtnnbhebklnappaaGreatDoor

set_option linter.unusedVariables false
set_option linter.unusedSimpArgs false
namespace Go.Proofs.YtnnbhebklnappaaGreatDoor
open Go.RowKit

def leafA (k : Nat) (x : Itm) (y : Bn) : PB := { code := [1, k], v := attrN k x y, flt := 0, steps := 1, high := 1 }
theorem leaf_seg {s : ByteArray} {p c : Nat} {h : Int} (ho : OpOkI s p) (hc : bt s p = c) (hk : c = 0 ∨ c = 1) (hh : 0 ≤ h) : ∃ l H, Seg s p (mkIns s p).next h (h + 1) (h + 1) l H := by
  have hop : (mkIns s p).op = c := hc
  have ht : takesN c = 0 ∧ laysN c = 1 := by rcases hk with rfl | rfl <;> exact ⟨rfl, rfl⟩
  have hf : ∀ r, Flows (mkIns s p) r ↔ r = (mkIns s p).next := by
    intro r
    constructor
    · rintro (⟨_, _, _, h⟩ | ⟨h, _⟩)
      · exact h
      · rw [hop] at h; omega
    · intro h
      exact .inl ⟨by omega, by omega, by omega, h⟩
  have g := seg_op (h := h) ho (by rw [hc, ht.1]; omega) hf
  rw [hc, ht.1, ht.2] at g
  exact ⟨_, _, g.cast rfl (by omega) (by omega)⟩
theorem leafA_ok {x : Itm} {y : Bn} (hx : x.Ok) (hy : y.Ok) {k : Nat} (hk : k < 7) : (leafA k x y).Ok x y := by
  have hop : ∀ s p, Sits s p [1, k] → OpOkI s p ∧ bt s p = 1 ∧ (mkIns s p).next = p + 2 ∧ (mkIns s p).arg = k := by
    intro s p hs
    obtain ⟨h1, h2⟩ := hs.head
    have b1 := hs 1 k rfl
    have hb : behindN 1 = 1 := rfl
    refine ⟨⟨h1, by omega, by rw [h2, hb]; omega, fun _ => by rw [b1.2]; omega⟩, h2, by simp only [mkIns, h2, hb], ?_⟩
    show IntKind.i64.wrap (lowU s (p + 1) (behindN (bt s p)) : Nat) = _
    rw [h2, hb, lowU_one, b1.2]
    exact wrap_small _ (by omega)
  refine ⟨fun s p hs => ?_, fun s p h hs hh => ?_, attr_in _ _ _ hx hy, by simp [leafA], by simp [leafA]⟩
  · obtain ⟨h1, h2, h3, h4⟩ := hop s p hs
    refine does_one (fun st => ?_)
    have e : p + (leafA k x y).code.length = (mkIns s p).next := by rw [h3]; rfl
    rw [e]
    unfold stepM
    have h5 : (mkIns s p).op = 1 := h2
    rw [h5]
    show Sum.inr ((mkIns s p).next, attrN (mkIns s p).arg x y :: st) = _
    rw [h4]
    rfl
  · obtain ⟨h1, h2, h3, h4⟩ := hop s p hs
    obtain ⟨l, H, g⟩ := leaf_seg h1 h2 (.inr rfl) hh
    exact ⟨l, H, g.cast (by rw [h3]; rfl) rfl rfl⟩
/-- So many bytes of a number, the lowest first. -/
def bytesN : Nat → Nat → List Nat
  | _, 0 => []
  | u, n + 1 => u % 256 :: bytesN (u / 256) n
theorem bytesN_length : ∀ (n u : Nat), (bytesN u n).length = n
  | 0, _ => rfl
  | n + 1, u => by simp only [bytesN, List.length_cons]; rw [bytesN_length n]
theorem bytes_low {s : ByteArray} : ∀ (n u p : Nat), Sits s p (bytesN u n) → lowU s p n = u % 256 ^ n
  | 0, u, p, _ => by simp [lowU, Nat.mod_one]
  | n + 1, u, p, hs => by
    have h1 := hs.head
    have h2 : Sits s (p + 1) (bytesN (u / 256) n) := Sits.right (c := [u % 256]) hs
    simp only [lowU]
    rw [h1.2, bytes_low n _ _ h2, Nat.pow_succ, Nat.mul_comm (256 ^ n) 256, Nat.mod_mul]
/-- The eight bytes of a number. -/
def eightC (v : Int) : List Nat := bytesN (v % 18446744073709551616).toNat 8
def leafI (v : Int) : PB := { code := 0 :: eightC v, v := v, flt := 0, steps := 1, high := 1 }
theorem eight_low {s : ByteArray} {p : Nat} {v : Int} (hs : Sits s p (eightC v)) : lowU s p 8 = (v % 18446744073709551616).toNat := by
  rw [bytes_low 8 _ _ hs]
  exact Nat.mod_eq_of_lt (by omega)
theorem leafI_ok {x : Itm} {y : Bn} {v : Int} (hv : In64 v) : (leafI v).Ok x y := by
  have hop : ∀ s p, Sits s p (0 :: eightC v) → OpOkI s p ∧ bt s p = 0 ∧ (mkIns s p).next = p + 9 ∧ (mkIns s p).arg = v := by
    intro s p hs
    obtain ⟨h1, h2⟩ := hs.head
    have b8 : p + 8 < s.size := by
      obtain ⟨c8, h8⟩ : ∃ c, (0 :: eightC v)[8]? = some c := ⟨_, List.getElem?_eq_getElem (by simp [eightC, bytesN_length])⟩
      exact (hs 8 c8 h8).1
    have hb : behindN 0 = 8 := rfl
    refine ⟨⟨h1, by omega, by rw [h2, hb]; omega, by omega⟩, h2, by simp only [mkIns, h2, hb], ?_⟩
    show IntKind.i64.wrap (lowU s (p + 1) (behindN (bt s p)) : Nat) = _
    have hs' : Sits s (p + 1) (eightC v) := Sits.right (c := [0]) hs
    rw [h2, hb, eight_low hs', IntKind.wrap_i64]
    unfold In64 at hv
    omega
  refine ⟨fun s p hs => ?_, fun s p h hs hh => ?_, hv, by simp [leafI], by simp [leafI]⟩
  · obtain ⟨h1, h2, h3, h4⟩ := hop s p hs
    refine does_one (fun st => ?_)
    have e : p + (leafI v).code.length = (mkIns s p).next := by rw [h3]; simp [leafI, eightC, bytesN_length]
    rw [e]
    unfold stepM
    have h5 : (mkIns s p).op = 0 := h2
    rw [h5]
    show Sum.inr ((mkIns s p).next, (mkIns s p).arg :: st) = _
    rw [h4]
    rfl
  · obtain ⟨h1, h2, h3, h4⟩ := hop s p hs
    obtain ⟨l, H, g⟩ := leaf_seg h1 h2 (.inl rfl) hh
    exact ⟨l, H, g.cast (by rw [h3]; simp [leafI, eightC, bytesN_length]) rfl rfl⟩
/-- The whole image's bytes. -/
def imgC (H : Nat) (c : List Nat) : List Nat := 83 :: 76 :: H :: c
theorem Sits.img {s : ByteArray} {H : Nat} {c : List Nat} (h : Sits s 0 (imgC H c)) : bt s 0 = 83 ∧ bt s 1 = 76 ∧ bt s 2 = H ∧ Sits s 3 c := by
  refine ⟨(h 0 _ rfl).2, (h 1 _ rfl).2, (h 2 _ rfl).2, ?_⟩
  have := Sits.right (c := [83, 76, H]) (d := c) h
  simpa using this
theorem score_op {s : ByteArray} {p : Nat} (h1 : p < s.size) (h2 : bt s p = 16) : OpOkI s p ∧ (mkIns s p).next = p + 1 := by
  have hb : behindN 16 = 0 := rfl
  exact ⟨⟨h1, by omega, by rw [h2, hb]; omega, by omega⟩, by simp only [mkIns, h2, hb]⟩
/-- It is an image. -/
theorem made_img {x : Itm} {y : Bn} {b : PB} (hb : b.Ok x y) {s : ByteArray} (hs : Sits s 0 (imgC b.high (b.code ++ [16]))) (hz : s.size = b.code.length + 4) (h4 : s.size ≤ 4000) (h1 : 1 ≤ b.code.length) : IsImg s := by
  obtain ⟨b0, b1, b2, hc⟩ := hs.img
  obtain ⟨l, H, g⟩ := hb.seg s 3 0 hc.left (by omega)
  have hsc := hc.right.head
  obtain ⟨ok, hn⟩ := score_op hsc.1 hsc.2
  refine ⟨⟨by omega, h4, b0, b1⟩, l ++ [mkIns s (3 + b.code.length)], ?_, H, ?_⟩
  · have := g.chain.snoc ok
    rw [hn] at this
    have e : 3 + b.code.length + 1 = s.size := by omega
    rw [e] at this
    exact this
  · rw [b2]
    refine g.lawful ok (.inl hsc.2) ?_ (by omega)
    rw [hsc.2]
    show ((1 : Nat) : Int) ≤ _
    omega
/-- What it does. -/
theorem made_run {x : Itm} {y : Bn} {b : PB} (hb : b.Ok x y) {s : ByteArray} {H : Nat} (hs : Sits s 0 (imgC H (b.code ++ [16]))) (f : Nat) (hf : b.steps + 1 ≤ f) : runM s x y f 3 [] 0 = if b.flt = 0 then (1, b.v, b.steps + 1) else (2, (b.flt : Int), b.steps) := by
  obtain ⟨_, _, _, hc⟩ := hs.img
  have hsc := hc.right.head
  rcases hb.does s 3 hc.left with ⟨h0, h1⟩ | ⟨h0, h1⟩
  · rw [if_pos h0]
    obtain ⟨f', rfl⟩ : ∃ f', f = (f' + 1) + b.steps := ⟨f - b.steps - 1, by omega⟩
    rw [h1]
    have hst : stepM x y (mkIns s (3 + b.code.length)) [b.v] = .inl (1, b.v) := by
      have h5 : (mkIns s (3 + b.code.length)).op = 16 := hsc.2
      unfold stepM
      rw [h5]
      rfl
    rw [runM_end hst]
    simp
  · rw [if_neg h0, h1 f [] 0 (by omega)]
    simp
/-- The operations of bytes that begin with a block are its own, then others. -/
theorem Seg.split {s : ByteArray} {q : Nat} {e hi : Int} {l l' : List Ins} {H : Nat → Int} (g : Seg s 3 q 0 e hi l H) (hc : Chain s 3 l' s.size) : ∃ r, l' = l ++ r ∧ Chain s q r s.size := g.chain.pre hc
/-- With less height it is none. -/
theorem low_none {x : Itm} {y : Bn} {b : PB} (hb : b.Ok x y) {s : ByteArray} {H : Nat} (hs : Sits s 0 (imgC H (b.code ++ [16]))) (hH : H < b.high) : ¬ IsImg s := by
  rintro ⟨_, l', hc', G, hl⟩
  obtain ⟨_, _, b2, hc⟩ := hs.img
  obtain ⟨l, H', g⟩ := hb.seg s 3 0 hc.left (by omega)
  have hsc := hc.right.head
  obtain ⟨ok, hn⟩ := score_op hsc.1 hsc.2
  obtain ⟨r, rfl, hr⟩ := g.split hc'
  cases r with
  | nil => have : 3 + b.code.length = s.size := hr; omega
  | cons o r =>
    obtain ⟨_, rfl, _⟩ := hr
    rw [b2] at hl
    exact g.tooHigh ok (by omega) r G hl
/-- Without its last operation it is none. -/
theorem cut_none {x : Itm} {y : Bn} {b : PB} (hb : b.Ok x y) {s : ByteArray} {H : Nat} (hs : Sits s 0 (imgC H b.code)) (hz : s.size = b.code.length + 3) : ¬ IsImg s := by
  rintro ⟨_, l', hc', G, hl⟩
  obtain ⟨_, _, b2, hc⟩ := hs.img
  obtain ⟨l, H', g⟩ := hb.seg s 3 0 hc (by omega)
  obtain ⟨r, rfl, hr⟩ := g.split hc'
  obtain ⟨o, ho, hf⟩ := g.out
  obtain ⟨o', ho', hp⟩ := ((hl.2 o (List.mem_append_left _ ho)).2.2.1 _ hf).1
  have := (hc'.mem o' ho').2.2.1.1
  omega
/-- With an operation behind that is never reached it is none. -/
theorem more_none {x : Itm} {y : Bn} {b : PB} (hb : b.Ok x y) {s : ByteArray} {H : Nat} (hs : Sits s 0 (imgC H (b.code ++ [16] ++ [17]))) : ¬ IsImg s := by
  rintro ⟨_, l', hc', G, hl⟩
  obtain ⟨_, _, b2, hc⟩ := hs.img
  obtain ⟨l, H', g⟩ := hb.seg s 3 0 hc.left.left (by omega)
  have hsc := hc.left.right.head
  have hrj := hc.right.head
  obtain ⟨ok, hn⟩ := score_op hsc.1 hsc.2
  obtain ⟨r, rfl, hr⟩ := g.split hc'
  cases r with
  | nil => have : 3 + b.code.length = s.size := hr; omega
  | cons o r =>
    obtain ⟨_, rfl, hr⟩ := hr
    rw [hn] at hr
    have e : 3 + (b.code ++ [16]).length = 3 + b.code.length + 1 := by simp; omega
    rw [e] at hrj
    cases r with
    | nil => have : 3 + b.code.length + 1 = s.size := hr; omega
    | cons o2 r =>
      obtain ⟨_, rfl, hr⟩ := hr
      rcases (hl.2 (mkIns s (3 + b.code.length + 1)) (by simp)).2.2.2 with h3 | ⟨o', ho', hf⟩
      · have : 3 + b.code.length + 1 = 3 := h3
        omega
      · rcases List.mem_append.1 ho' with h5 | h5
        · obtain ⟨b1, _⟩ := (g.ops o' h5).2.2 _ hf
          rcases b1 with b1 | ⟨o3, ho3, b1⟩
          · have : 3 + b.code.length + 1 = 3 + b.code.length := b1
            omega
          · have h6 := (g.before ho3).2
            have : o3.pos = 3 + b.code.length + 1 := b1
            omega
        · rcases List.mem_cons.1 h5 with rfl | h5
          · rcases hf with ⟨_, h6, _, _⟩ | ⟨h6, _⟩
            · exact h6 hsc.2
            · have h7 : (mkIns s (3 + b.code.length)).op = 16 := hsc.2
              omega
          · rcases List.mem_cons.1 h5 with rfl | h5
            · have := hf.lt
              have h6 : 3 + b.code.length + 1 < 3 + b.code.length + 1 := this
              omega
            · have hm := hr.mem o' h5
              have h8 := next_pos s (3 + b.code.length + 1)
              have h9 : o'.pos < 3 + b.code.length + 1 := by rw [hm.2.2.2] at hf; exact hf.lt
              omega
end Go.Proofs.YtnnbhebklnappaaGreatDoor
