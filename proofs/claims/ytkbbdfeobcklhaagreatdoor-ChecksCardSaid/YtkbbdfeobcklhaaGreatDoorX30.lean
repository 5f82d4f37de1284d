/-
  The program's check: EXPRs that follow one another; kinds.
-/
import Derived.Test.YtkbbdfeobcklhaaGreatDoorX29
set_option linter.unusedVariables false
set_option linter.unusedSimpArgs false
namespace Go.Proofs.YtkbbdfeobcklhaaGreatDoor
open Go.RowKit Go.Deep

/-- The EXPRs of the lets follow one another from b on. -/
def ConsL : Nat → List PLet → Prop
  | _, [] => True
  | b, p :: r => p.val.fr = b ∧ b < p.val.behind ∧ ConsL p.val.behind r
def endL : Nat → List PLet → Nat
  | b, [] => b
  | _, p :: r => endL p.val.behind r
def ConsR : Nat → List PRule → Prop
  | _, [] => True
  | b, p :: r => (p.hw = true → p.when.fr = b ∧ b < p.when.behind) ∧ (p.hs = true → p.score.fr = (if p.hw then p.when.behind else b) ∧ p.score.fr < p.score.behind) ∧ ConsR (if p.hs then p.score.behind else if p.hw then p.when.behind else b) r
theorem cons_lets : ∀ (L : List RSt), (∀ s ∈ L, s.wf) → isLetL' L → ∀ b, ConsL b (letsS b L) ∧ endL b (letsS b L) = b + numS L
  | [], _, _, b => ⟨trivial, rfl⟩
  | s :: r, hw, hl, b => by
    rcases s.cases with ⟨kw, name, eq, e, semi, rfl⟩ | ⟨wh, act, sc, semi, rfl⟩
    · obtain ⟨h1, h2⟩ := cons_lets r (fun x hx => hw x (by simp [hx])) (fun x hx => hl x (by simp [hx])) (b + e.num)
      have hp := e.num_pos (hw _ List.mem_cons_self).2.2.2.1
      rw [letsS, RSt.lets_let, RSt.num_let, List.singleton_append, numS, RSt.num_let]
      exact ⟨⟨rfl, by simp [layE]; omega, h1⟩, by rw [endL]; show endL (b + e.num) _ = _; rw [h2]; omega⟩
    · have := hl _ List.mem_cons_self; cases this
theorem cons_rules : ∀ (R : List RSt), (∀ s ∈ R, s.wf) → isRuleL' R → ∀ b, ConsR b (rulesS b R)
  | [], _, _, b => trivial
  | s :: r, hw, hl, b => by
    rcases s.cases with ⟨kw, name, eq, e, semi, rfl⟩ | ⟨wh, act, sc, semi, rfl⟩
    · have := hl _ List.mem_cons_self; cases this
    · have ih := cons_rules r (fun x hx => hw x (by simp [hx])) (fun x hx => hl x (by simp [hx])) (b + (RSt.rule wh act sc semi).num)
      have hws := hw _ List.mem_cons_self
      rw [RSt.num_rule] at ih
      rw [rulesS, RSt.rules_rule, RSt.num_rule, List.singleton_append]
      cases wh with
      | none =>
        cases sc with
        | none => exact ⟨fun h => (by cases h), fun h => (by cases h), by simpa [optNum] using ih⟩
        | some e =>
          have hp := e.num_pos (hws.2.2.1 e rfl)
          exact ⟨fun h => (by cases h), fun _ => ⟨by simp [optE, layE, optNum], by simp [optE, layE, optNum]; omega⟩, by simpa [optNum, optE, layE] using ih⟩
      | some p =>
        obtain ⟨k, e1⟩ := p
        have hp1 := e1.num_pos (hws.1 k e1 rfl).2
        cases sc with
        | none => exact ⟨fun _ => ⟨by simp [optE, layE], by simp [optE, layE]; omega⟩, fun h => (by cases h), by simpa [optNum, optE, layE] using ih⟩
        | some e =>
          have hp := e.num_pos (hws.2.2.1 e rfl)
          exact ⟨fun _ => ⟨by simp [optE, layE], by simp [optE, layE]; omega⟩, fun _ => ⟨by simp [optE, layE, optNum], by simp [optE, layE, optNum]; omega⟩, by simpa [optNum, optE, layE, Nat.add_assoc] using ih⟩
/-- What is asked of a policy's nodes, lets and rules. -/
structure Fits (N : List PNode) (ls : List PLet) (rs : List PRule) : Prop where
  x : ExpsOk N ls rs
  l : ConsL 0 ls
  r : ConsR (endL 0 ls) rs
  n : ∀ n ∈ N, n.left ≤ 1000 ∧ n.right ≤ 1000
theorem consL_pos : ∀ (ls : List PLet) (b : Nat), ConsL b ls → ∀ p ∈ ls, 1 ≤ p.val.behind
  | [], _, _, p, hp => by cases hp
  | q :: r, b, h, p, hp => by
    obtain ⟨h1, h2, h3⟩ := h
    simp only [List.mem_cons] at hp
    rcases hp with rfl | hp
    · omega
    · exact consL_pos r _ h3 p hp
theorem Fits.lets {N : List PNode} {ls : List PLet} {rs : List PRule} (h : Fits N ls rs) (hN : N.length ≤ 401) : ∀ p ∈ ls, 1 ≤ p.val.behind ∧ p.val.behind ≤ 401 :=
  fun p hp => ⟨consL_pos ls 0 h.l p hp, Nat.le_trans (h.x.l p hp).lt hN⟩
theorem seg_len {N : List PNode} {e : PExp} (h : ExpOk N e) : (segE N e).length = e.behind - e.fr := by
  have h1 := h.le
  have h2 := h.lt
  simp [segE]; omega
theorem look_len {ls : List PLet} {N : List PNode} {e : PExp} {ks : List Nat} {f : Option Nat} (h : ExpOk N e) (hk : ks.length = e.fr) : (lookGo ls ks f (segE N e)).1.length = e.behind := by
  rw [lookGo_len, seg_len h, hk]
  have := h.le
  omega
end Go.Proofs.YtkbbdfeobcklhaaGreatDoor
