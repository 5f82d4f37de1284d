/-
  Images of known making: operations of two numbers, and choices; plain.
-/
import Derived.Test.YtbdjcffmpbjjlaaDoorBls
set_option linter.unusedVariables false
set_option linter.unusedSimpArgs false
namespace Go.Proofs.YtbdjcffmpbjjlaaDoor
open Go.RowKit

def maxN (a b : Nat) : Nat := if b ≤ a then a else b
/-- The operation of two numbers. -/
def twoP (n : Nat) (p q : PB) : PB :=
  if p.flt ≠ 0 then { code := p.code ++ q.code ++ [n], v := 0, flt := p.flt, steps := p.steps, high := maxN p.high (q.high + 1) }
  else if q.flt ≠ 0 then { code := p.code ++ q.code ++ [n], v := 0, flt := q.flt, steps := p.steps + q.steps, high := maxN p.high (q.high + 1) }
  else { code := p.code ++ q.code ++ [n], v := (joinN n p.v q.v).1, flt := (joinN n p.v q.v).2, steps := p.steps + q.steps + 1, high := maxN p.high (q.high + 1) }
theorem two_seg {s : ByteArray} {a n : Nat} {h : Int} {p q : PB} {x : Itm} {y : Bn} (hp : p.Ok x y) (hq : q.Ok x y) (hn : 4 ≤ n ∧ n ≤ 12) (hs : Sits s a (p.code ++ q.code ++ [n])) (hh : 0 ≤ h) : ∃ l H, Seg s a (a + (p.code ++ q.code ++ [n]).length) h (h + 1) (h + (maxN p.high (q.high + 1) : Nat)) l H := by
  obtain ⟨l1, H1, g1⟩ := hp.seg s a h hs.left.left hh
  obtain ⟨l2, H2, g2⟩ := hq.seg s (a + p.code.length) (h + 1) hs.left.right (by omega)
  have hs3 := hs.right
  rw [List.length_append, ← Nat.add_assoc] at hs3
  obtain ⟨h1, h2, h3, h4⟩ := bare_op hs3 (by omega)
  have ht : takesN n = 2 ∧ laysN n = 1 := ⟨by unfold takesN; rw [if_neg (by omega), if_neg (by omega)], by unfold laysN; rw [if_neg (by omega)]⟩
  have g3 := seg_op (h := h + 1 + 1) h1 (by rw [h3, ht.1]; omega) (bare_flows h3 (by omega))
  rw [h3, ht.1, ht.2] at g3
  have e1 := hp.pos
  have e2 := hq.pos
  refine ⟨_, _, ((g1.seq g2).seq g3).cast (by rw [h2]; simp; omega) (by omega) ?_⟩
  unfold maxN
  split <;> omega
theorem twoP_ok {x : Itm} {y : Bn} {p q : PB} (hp : p.Ok x y) (hq : q.Ok x y) {n : Nat} (hn : 4 ≤ n ∧ n ≤ 12) : (twoP n p q).Ok x y := by
  have hpos : 1 ≤ maxN p.high (q.high + 1) := by have := hp.pos; unfold maxN; split <;> omega
  by_cases hf : p.flt ≠ 0
  · have e : twoP n p q = { code := p.code ++ q.code ++ [n], v := 0, flt := p.flt, steps := p.steps, high := maxN p.high (q.high + 1) } := by unfold twoP; rw [if_pos hf]
    rw [e]
    exact ⟨fun s a hs => (hp.does s a hs.left.left).fault hf, fun s a h hs hh => two_seg hp hq hn hs hh, (by decide : In64 (0 : Int)), hp.le2, hpos⟩
  have hf0 : p.flt = 0 := by omega
  have hd : ∀ s a, Sits s a (p.code ++ q.code ++ [n]) → DoesSo s x y a (a + p.code.length) p.v 0 p.steps := fun s a hs => by have := hp.does s a hs.left.left; rw [hf0] at this; exact this
  by_cases hg : q.flt ≠ 0
  · have e : twoP n p q = { code := p.code ++ q.code ++ [n], v := 0, flt := q.flt, steps := p.steps + q.steps, high := maxN p.high (q.high + 1) } := by unfold twoP; rw [if_neg hf, if_pos hg]
    rw [e]
    exact ⟨fun s a hs => (hd s a hs).second (hq.does s _ hs.left.right) hg, fun s a h hs hh => two_seg hp hq hn hs hh, (by decide : In64 (0 : Int)), hq.le2, hpos⟩
  have hg0 : q.flt = 0 := by omega
  have e : twoP n p q = { code := p.code ++ q.code ++ [n], v := (joinN n p.v q.v).1, flt := (joinN n p.v q.v).2, steps := p.steps + q.steps + 1, high := maxN p.high (q.high + 1) } := by unfold twoP; rw [if_neg hf, if_neg hg]
  rw [e]
  refine ⟨fun s a hs => ?_, fun s a h hs hh => two_seg hp hq hn hs hh, join_in _ _ _ hp.num hq.num, ?_, hpos⟩
  · have h2 := hq.does s _ hs.left.right
    rw [hg0] at h2
    have hs3 := hs.right
    rw [List.length_append, ← Nat.add_assoc] at hs3
    obtain ⟨h1, h2', h3, h4⟩ := bare_op hs3 (by omega)
    refine (hd s a hs).binary h2 (fun st => ?_)
    have : a + (p.code ++ q.code ++ [n]).length = (mkIns s (a + p.code.length + q.code.length)).next := by rw [h2']; simp; omega
    rw [this]
    unfold stepM
    rw [h4, if_neg (by omega), if_neg (by omega), if_neg (by omega), if_neg (by omega), if_neg (by omega), if_neg (by omega), if_neg (by omega), if_neg (by omega), if_neg (by omega)]
    rfl
  · have e2 : ∀ v, (exact64 v).2 ≤ 2 := fun v => by unfold exact64; split <;> simp
    show (joinN n p.v q.v).2 ≤ 2
    unfold joinN
    (repeat' split) <;> first | exact e2 _ | simp
/-- A jump and its two bytes. -/
def jumpC (n k : Nat) : List Nat := [n, k % 256, k / 256]
theorem jump_op' {s : ByteArray} {p n k : Nat} (hs : Sits s p (jumpC n k)) (hn : n = 13 ∨ n = 14 ∨ n = 15) (hk : k < 65536) : OpOkI s p ∧ (mkIns s p).next = p + 3 ∧ bt s p = n ∧ (mkIns s p).op = n ∧ (mkIns s p).to = p + 3 + k ∧ (mkIns s p).arg = k := by
  obtain ⟨h1, h2⟩ := hs.head
  have b1 := hs 1 (k % 256) rfl
  have b2 := hs 2 (k / 256) rfl
  have hb : behindN n = 2 := by unfold behindN; rcases hn with rfl | rfl | rfl <;> rfl
  have hnx : (mkIns s p).next = p + 3 := by simp only [mkIns, h2, hb]
  have harg : (mkIns s p).arg = k := by
    rw [jump_arg s p (by show bt s p = 13 ∨ bt s p = 14 ∨ bt s p = 15; rw [h2]; exact hn)]
    simp only [lowU]
    rw [b1.2, show p + 1 + 1 = p + 2 by omega, b2.2]
    omega
  refine ⟨⟨h1, by omega, by rw [h2, hb]; omega, by omega⟩, hnx, h2, h2, ?_, harg⟩
  unfold Ins.to
  rw [hnx, harg]
  omega
/-- A number decides which of two blocks is done. -/
def choiceC (n : Nat) (p a b : PB) : List Nat := p.code ++ (jumpC n (a.code.length + 3) ++ (a.code ++ (jumpC 13 b.code.length ++ b.code)))
def choiceH (p a b : PB) : Nat := maxN (maxN p.high a.high) b.high
def choiceP (n : Nat) (p a b : PB) : PB :=
  if p.flt ≠ 0 then { code := choiceC n p a b, v := 0, flt := p.flt, steps := p.steps, high := choiceH p a b }
  else if (decide (p.v ≠ 0)) = (decide (n = 15)) then { code := choiceC n p a b, v := b.v, flt := b.flt, steps := p.steps + 1 + b.steps, high := choiceH p a b }
  else if a.flt = 0 then { code := choiceC n p a b, v := a.v, flt := 0, steps := p.steps + 1 + (a.steps + 1), high := choiceH p a b }
  else { code := choiceC n p a b, v := a.v, flt := a.flt, steps := p.steps + 1 + a.steps, high := choiceH p a b }
/-- Where the parts of a choice stand. -/
theorem choice_parts {s : ByteArray} {o n : Nat} {p a b : PB} (hs : Sits s o (choiceC n p a b)) :
    Sits s o p.code ∧ Sits s (o + p.code.length) (jumpC n (a.code.length + 3)) ∧ Sits s (o + p.code.length + 3) a.code ∧ Sits s (o + p.code.length + 3 + a.code.length) (jumpC 13 b.code.length) ∧ Sits s (o + p.code.length + 3 + a.code.length + 3) b.code := by
  have h1 := hs.right
  have h2 := h1.right
  have e1 : (jumpC n (a.code.length + 3)).length = 3 := rfl
  rw [e1] at h2
  have h3 := h2.right
  have h4 := h3.right
  have e2 : (jumpC 13 b.code.length).length = 3 := rfl
  rw [e2] at h4
  exact ⟨hs.left, h1.left, h2.left, h3.left, h4⟩
theorem choice_len (n : Nat) (p a b : PB) (o : Nat) : o + (choiceC n p a b).length = o + p.code.length + 3 + a.code.length + 3 + b.code.length := by
  unfold choiceC jumpC
  simp
  omega
theorem choice_seg {s : ByteArray} {o n : Nat} {h : Int} {p a b : PB} {x : Itm} {y : Bn} (hp : p.Ok x y) (ha : a.Ok x y) (hb : b.Ok x y) (hn : n = 14 ∨ n = 15) (hla : a.code.length < 60000) (hlb : b.code.length < 60000) (hs : Sits s o (choiceC n p a b)) (hh : 0 ≤ h) :
    ∃ l H, Seg s o (o + (choiceC n p a b).length) h (h + 1) (h + (choiceH p a b : Nat)) l H := by
  obtain ⟨s1, s2, s3, s4, s5⟩ := choice_parts hs
  obtain ⟨l1, H1, g1⟩ := hp.seg s o h s1 hh
  obtain ⟨l2, H2, g2⟩ := ha.seg s _ h s3 hh
  obtain ⟨l3, H3, g3⟩ := hb.seg s _ h s5 hh
  obtain ⟨a1, a2, a3, a4, a5, a6⟩ := jump_op' s2 (.inr hn) (by omega)
  obtain ⟨b1, b2, b3, b4, b5, b6⟩ := jump_op' s4 (.inl rfl) (by omega)
  have g := seg_choice hh g1 a1 (by rw [a3]; exact hn) a2 (by rw [a5]; omega) g2 b1 b3 b2 b5 g3
  refine ⟨_, _, g.cast (choice_len n p a b o).symm rfl ?_⟩
  unfold choiceH maxN
  (repeat' split) <;> omega
theorem choiceP_ok {x : Itm} {y : Bn} {p a b : PB} (hp : p.Ok x y) (ha : a.Ok x y) (hb : b.Ok x y) {n : Nat} (hn : n = 14 ∨ n = 15) (hla : a.code.length < 60000) (hlb : b.code.length < 60000) : (choiceP n p a b).Ok x y := by
  have hpos : 1 ≤ choiceH p a b := by have := hp.pos; unfold choiceH maxN; (repeat' split) <;> omega
  have hsg : ∀ s o (h : Int), Sits s o (choiceC n p a b) → 0 ≤ h → ∃ l H, Seg s o (o + (choiceC n p a b).length) h (h + 1) (h + (choiceH p a b : Nat)) l H := fun s o h hs hh => choice_seg hp ha hb hn hla hlb hs hh
  by_cases hf : p.flt ≠ 0
  · have e : choiceP n p a b = { code := choiceC n p a b, v := 0, flt := p.flt, steps := p.steps, high := choiceH p a b } := by unfold choiceP; rw [if_pos hf]
    rw [e]
    exact ⟨fun s o hs => (hp.does s o (choice_parts hs).1).fault hf, hsg, (by decide : In64 (0 : Int)), hp.le2, hpos⟩
  have hf0 : p.flt = 0 := by omega
  have hd : ∀ s o, Sits s o (choiceC n p a b) → DoesSo s x y o (o + p.code.length) p.v 0 p.steps := fun s o hs => by have := hp.does s o (choice_parts hs).1; rw [hf0] at this; exact this
  have hstep : ∀ s o, Sits s o (choiceC n p a b) → ∀ st, stepM x y (mkIns s (o + p.code.length)) (p.v :: st) = .inr (if (decide (p.v ≠ 0)) = (decide (n = 15)) then o + p.code.length + 3 + a.code.length + 3 else o + p.code.length + 3, st) := by
    intro s o hs st
    obtain ⟨a1, a2, a3, a4, a5, a6⟩ := jump_op' (choice_parts hs).2.1 (.inr hn) (by omega)
    have hto : (mkIns s (o + p.code.length)).to = o + p.code.length + 3 + a.code.length + 3 := by rw [a5]; omega
    unfold stepM
    rw [a4]
    rcases hn with rfl | rfl
    · show Sum.inr ((if p.v = 0 then (mkIns s (o + p.code.length)).to else (mkIns s (o + p.code.length)).next), st) = _
      rw [hto, a2]
      by_cases hv : p.v = 0 <;> simp [hv]
    · show Sum.inr ((if p.v = 0 then (mkIns s (o + p.code.length)).next else (mkIns s (o + p.code.length)).to), st) = _
      rw [hto, a2]
      by_cases hv : p.v = 0 <;> simp [hv]
  by_cases hc : (decide (p.v ≠ 0)) = (decide (n = 15))
  · have e : choiceP n p a b = { code := choiceC n p a b, v := b.v, flt := b.flt, steps := p.steps + 1 + b.steps, high := choiceH p a b } := by unfold choiceP; rw [if_neg hf, if_pos hc]
    rw [e]
    refine ⟨fun s o hs => ?_, hsg, hb.num, hb.le2, hpos⟩
    have h2 := hb.does s _ (choice_parts hs).2.2.2.2
    rw [← choice_len n p a b o] at h2
    exact (hd s o hs).goTo (fun st => by rw [hstep s o hs st, if_pos hc]) h2
  · have hgo : ∀ s o, Sits s o (choiceC n p a b) → ∀ st, stepM x y (mkIns s (o + p.code.length)) (p.v :: st) = .inr (o + p.code.length + 3, st) := fun s o hs st => by rw [hstep s o hs st, if_neg hc]
    by_cases hg : a.flt = 0
    · have e : choiceP n p a b = { code := choiceC n p a b, v := a.v, flt := 0, steps := p.steps + 1 + (a.steps + 1), high := choiceH p a b } := by unfold choiceP; rw [if_neg hf, if_neg hc, if_pos hg]
      rw [e]
      refine ⟨fun s o hs => ?_, hsg, ha.num, by simp, hpos⟩
      have h2 := ha.does s _ (choice_parts hs).2.2.1
      rw [hg] at h2
      obtain ⟨b1, b2, b3, b4, b5, b6⟩ := jump_op' (choice_parts hs).2.2.2.1 (.inl rfl) (by omega)
      have h3 := h2.over (e := o + (choiceC n p a b).length) (fun st => by
        unfold stepM
        rw [b4]
        show Sum.inr ((mkIns s _).to, st) = _
        rw [b5, choice_len n p a b o])
      exact (hd s o hs).goTo (hgo s o hs) h3
    · have e : choiceP n p a b = { code := choiceC n p a b, v := a.v, flt := a.flt, steps := p.steps + 1 + a.steps, high := choiceH p a b } := by unfold choiceP; rw [if_neg hf, if_neg hc, if_neg hg]
      rw [e]
      refine ⟨fun s o hs => ?_, hsg, ha.num, ha.le2, hpos⟩
      exact (hd s o hs).goTo (hgo s o hs) ((ha.does s _ (choice_parts hs).2.2.1).fault hg)
end Go.Proofs.YtbdjcffmpbjjlaaDoor
