/-
  What the program's reader may find at a place where a LET or a RULE is wanted: plain.
-/
import Derived.Test.YtkbbdfeobcklhaaGreatDoorX08
set_option linter.unusedVariables false
set_option linter.unusedSimpArgs false
namespace Go.Proofs.YtkbbdfeobcklhaaGreatDoor
open Go.Deep

theorem GotO.expr {d x : Nat} {l rest : List RTok} {t : Tr} (h : GotO d l t rest) : goS ⟨3, x, d⟩ t.toks = .ok ⟨4, x, d⟩ := h.go x
theorem no_joint {a : RTok} {rest r : List RTok} (hs : stops 1 rest) (e : rest = a :: r) : jointT a.text = false := by
  have h1 := hs a r e
  cases hj : jointT a.text with
  | false => rfl
  | true => have := (joint_binds _).1 hj; omega

/-- A place where a RULE may stand. -/
def RuleAt (p : Spot) : Prop := (p.next = 0 ∨ p.next = 6) ∧ p.opn = 0
theorem rule_step {p : Spot} (hp : RuleAt p) {t : Txt} (h : p.next = 0 → t ≠ cLet) : stepS p t = ruleS p t true := by
  obtain ⟨h1 | h1, h2⟩ := hp
  · have := h h1
    simp [stepS, h1, this]
  · simp [stepS, h1]

/-- A LET, up to its EXPR. -/
theorem let_one {t : Txt} (h : t = cLet) : stepS ⟨0, 0, 0⟩ t = (⟨1, 0, 0⟩, true) := by subst h; rfl
theorem let_two {t : Txt} (h : nameT t = true) : stepS ⟨1, 0, 0⟩ t = (⟨2, 0, 0⟩, true) := by simp [stepS, h]
theorem let_two_bad {t : Txt} (h : nameT t = false) : (stepS ⟨1, 0, 0⟩ t).2 = false := by simp [stepS, h]
theorem let_three {t : Txt} (h : t = cEq) : stepS ⟨2, 0, 0⟩ t = (⟨3, 0, 0⟩, true) := by subst h; rfl
theorem let_three_bad {t : Txt} (h : t ≠ cEq) : (stepS ⟨2, 0, 0⟩ t).2 = false := by simp [stepS, h]
theorem let_end {t : Txt} (h : t = cSemi) : stepS ⟨4, 0, 0⟩ t = (⟨0, 0, 0⟩, true) := by subst h; rfl
theorem let_end_bad {t : Txt} (hj : jointT t = false) (h : t ≠ cSemi) : (stepS ⟨4, 0, 0⟩ t).2 = false := by simp [stepS, afterS, hj, h]
theorem score_end {t : Txt} (h : t = cSemi) : stepS ⟨4, 2, 0⟩ t = (⟨6, 2, 0⟩, true) := by subst h; rfl
theorem score_end_bad {t : Txt} (hj : jointT t = false) (h : t ≠ cSemi) : (stepS ⟨4, 2, 0⟩ t).2 = false := by simp [stepS, afterS, hj, h]
theorem rej_end {x : Nat} {t : Txt} (h : t = cSemi) : stepS ⟨5, x, 0⟩ t = (⟨6, x, 0⟩, true) := by subst h; rfl
theorem rej_end_bad {x : Nat} {t : Txt} (h : t ≠ cSemi) : (stepS ⟨5, x, 0⟩ t).2 = false := by simp [stepS, h]
theorem when_rule {t : Txt} (hj : jointT t = false) : stepS ⟨4, 1, 0⟩ t = ruleS ⟨4, 1, 0⟩ t false := by simp [stepS, afterS, hj]

structure GotS (p : Spot) (l : List RTok) (s : RSt) (rest : List RTok) (q : Spot) : Prop where
  eq : l = s.toks ++ rest
  wf : s.wf
  go : goS p s.toks = .ok q
theorem GotS.bad {p q : Spot} {l rest : List RTok} {s : RSt} {k : Nat} (h : GotS p l s rest q) (hb : BadS q rest k) : BadS p l (s.toks.length + k) := by rw [h.eq]; exact hb.behind h.go

theorem let_got {kw name eq semi : RTok} {r rest : List RTok} {e : Tr} (h1 : kw.text = cLet) (h2 : nameT name.text = true) (h3 : eq.text = cEq) (g : GotO 0 r e (semi :: rest)) (h4 : semi.text = cSemi) :
    GotS ⟨0, 0, 0⟩ (kw :: name :: eq :: r) (.letS kw name eq e semi) rest ⟨0, 0, 0⟩ := by
  refine ⟨?_, ⟨h1, h2, h3, g.wf, h4⟩, ?_⟩
  · rw [g.eq, RSt.toks, RSt.body_let]; simp [RSt.letS, RSt.semi]
  · simp only [RSt.toks, RSt.body_let, List.cons_append]
    rw [goS_cons (let_one h1), goS_cons (let_two h2), goS_cons (let_three h3), goS_ok (g.go 0)]
    exact goS_cons (let_end h4)
theorem let_bad_name {kw : RTok} {l : List RTok} (h1 : kw.text = cLet) (h : ∀ a r, l = a :: r → nameT a.text = false) : BadS ⟨0, 0, 0⟩ (kw :: l) 1 :=
  BadS.one (let_one h1) (BadS.here (by simp) fun a r e => let_two_bad (h a r e))
theorem let_bad_eq {kw name : RTok} {l : List RTok} (h1 : kw.text = cLet) (h2 : nameT name.text = true) (h : ∀ a r, l = a :: r → a.text ≠ cEq) : BadS ⟨0, 0, 0⟩ (kw :: name :: l) 2 :=
  BadS.one (let_one h1) (BadS.one (let_two h2) (BadS.here (by simp) fun a r e => let_three_bad (h a r e)))
theorem let_bad_expr {kw name eq : RTok} {l : List RTok} {k : Nat} (h1 : kw.text = cLet) (h2 : nameT name.text = true) (h3 : eq.text = cEq) (h : BadV 0 l k) : BadS ⟨0, 0, 0⟩ (kw :: name :: eq :: l) (k + 3) :=
  BadS.one (let_one h1) (BadS.one (let_two h2) (BadS.one (let_three h3) (h 0)))
theorem let_bad_end {kw name eq : RTok} {l rest : List RTok} {e : Tr} (h1 : kw.text = cLet) (h2 : nameT name.text = true) (h3 : eq.text = cEq) (g : GotO 0 l e rest) (hs : stops 1 rest) (h : ∀ a r, rest = a :: r → a.text ≠ cSemi) : BadS ⟨0, 0, 0⟩ (kw :: name :: eq :: l) (e.toks.length + 3) := by
  refine BadS.one (let_one h1) (BadS.one (let_two h2) (BadS.one (let_three h3) ?_))
  rw [g.eq]
  exact (BadS.here (p := ⟨4, 0, 0⟩) (by simp) fun a r e => let_end_bad (no_joint hs e) (h a r e)).behind (g.go 0)

/-- An ACT and its end, at a place where a RULE or (behind its `when`) an ACT may stand. -/
def ActAt (p : Spot) : Prop := p.next ≠ 6 → True
theorem ruleS_score {p : Spot} {t : Txt} {b : Bool} (h : t = cScore) (ho : p.opn = 0) : ruleS p t b = (⟨3, 2, 0⟩, true) := by
  subst h; simp [ruleS, ho, cScore, cWhen]
theorem ruleS_rej {p : Spot} {t : Txt} {b : Bool} (h : t = cReject) (ho : p.opn = 0) : ruleS p t b = (⟨5, p.expr, 0⟩, true) := by
  subst h; simp [ruleS, ho, cScore, cWhen, cReject]
theorem ruleS_when {p : Spot} {t : Txt} (h : t = cWhen) (ho : p.opn = 0) : ruleS p t true = (⟨3, 1, 0⟩, true) := by
  subst h; simp [ruleS, ho]
theorem ruleS_bad {p : Spot} {t : Txt} {b : Bool} (h1 : b = true → t ≠ cWhen) (h2 : t ≠ cScore) (h3 : t ≠ cReject) : (ruleS p t b).2 = false := by
  cases b with
  | false => simp [ruleS, h2, h3]
  | true => simp [ruleS, h2, h3, h1 rfl]
/-- The spot at which an ACT stands: what is asked of the next token there. -/
structure Acts (p : Spot) (b : Bool) (l : List RTok) : Prop where
  opn : p.opn = 0
  nx : ∀ a r, l = a :: r → stepS p a.text = ruleS p a.text b
theorem acts_score {p : Spot} {b : Bool} {act semi : RTok} {r rest : List RTok} {e : Tr} (A : Acts p b (act :: r)) (h1 : act.text = cScore) (g : GotO 0 r e (semi :: rest)) (h2 : semi.text = cSemi) : goS p ((act :: e.toks) ++ [semi]) = .ok ⟨6, 2, 0⟩ := by
  simp only [List.cons_append]
  rw [goS_cons ((A.nx act r rfl).trans (ruleS_score h1 A.opn)), goS_ok (g.go 2)]
  exact goS_cons (score_end h2)
theorem acts_rej {p : Spot} {b : Bool} {act semi : RTok} {rest : List RTok} (A : Acts p b (act :: semi :: rest)) (h1 : act.text = cReject) (h2 : semi.text = cSemi) : goS p [act, semi] = .ok ⟨6, p.expr, 0⟩ := by
  rw [goS_cons ((A.nx act _ rfl).trans (ruleS_rej h1 A.opn))]
  exact goS_cons (rej_end h2)
theorem acts_bad_score {p : Spot} {b : Bool} {act : RTok} {r : List RTok} {k : Nat} (A : Acts p b (act :: r)) (h1 : act.text = cScore) (g : BadV 0 r k) : BadS p (act :: r) (k + 1) :=
  BadS.one ((A.nx act r rfl).trans (ruleS_score h1 A.opn)) (g 2)
theorem acts_bad_send {p : Spot} {b : Bool} {act : RTok} {r rest : List RTok} {e : Tr} (A : Acts p b (act :: r)) (h1 : act.text = cScore) (g : GotO 0 r e rest) (hs : stops 1 rest) (h : ∀ a r, rest = a :: r → a.text ≠ cSemi) : BadS p (act :: r) (e.toks.length + 1) := by
  refine BadS.one ((A.nx act r rfl).trans (ruleS_score h1 A.opn)) ?_
  rw [g.eq]
  exact (BadS.here (p := ⟨4, 2, 0⟩) (by simp) fun a r e => score_end_bad (no_joint hs e) (h a r e)).behind (g.go 2)
theorem acts_bad_rend {p : Spot} {b : Bool} {act : RTok} {r : List RTok} (A : Acts p b (act :: r)) (h1 : act.text = cReject) (h : ∀ a r', r = a :: r' → a.text ≠ cSemi) : BadS p (act :: r) 1 :=
  BadS.one ((A.nx act r rfl).trans (ruleS_rej h1 A.opn)) (BadS.here (by simp) fun a r' e => rej_end_bad (h a r' e))
theorem acts_bad_here {p : Spot} {b : Bool} {l : List RTok} (A : Acts p b l) (hp : l = [] → p.next ≠ 6) (h : ∀ a r, l = a :: r → (b = true → a.text ≠ cWhen) ∧ a.text ≠ cScore ∧ a.text ≠ cReject) : BadS p l 0 :=
  BadS.here2 hp fun a r e => by rw [A.nx a r e]; exact ruleS_bad (h a r e).1 (h a r e).2.1 (h a r e).2.2
theorem acts_first {p : Spot} {l : List RTok} (hp : RuleAt p) (h : p.next = 0 → ∀ a r, l = a :: r → a.text ≠ cLet) : Acts p true l :=
  ⟨hp.2, fun a r e => rule_step hp fun h0 => h h0 a r e⟩
theorem acts_when {rest : List RTok} (hs : stops 1 rest) : Acts ⟨4, 1, 0⟩ false rest := ⟨rfl, fun a r e => when_rule (no_joint hs e)⟩
/-- The `when` of a RULE. -/
theorem when_go {p : Spot} {w : RTok} {r rest : List RTok} {e : Tr} (A : Acts p true (w :: r)) (h : w.text = cWhen) (g : GotO 0 r e rest) : goS p (w :: e.toks) = .ok ⟨4, 1, 0⟩ := by
  rw [goS_cons ((A.nx w r rfl).trans (ruleS_when h A.opn))]; exact g.go 1
theorem when_bad {p : Spot} {w : RTok} {r : List RTok} {k : Nat} (A : Acts p true (w :: r)) (h : w.text = cWhen) (g : BadV 0 r k) : BadS p (w :: r) (k + 1) :=
  BadS.one ((A.nx w r rfl).trans (ruleS_when h A.opn)) (g 1)
end Go.Proofs.YtkbbdfeobcklhaaGreatDoor
