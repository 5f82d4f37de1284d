/-
  What the program's reader may find at a place where an EXPR is wanted: a tree, or the first token that can't stand there: plain.
-/
import Derived.Test.YtjjbmbjmdgoofaaGreatDoorG03
set_option linter.unusedVariables false
set_option linter.unusedSimpArgs false
namespace Go.Proofs.YtjjbmbjmdgoofaaGreatDoor
open Go.Deep
structure PNode where
  tok : RTok
  ops : Nat
  left : Nat
  right : Nat
def numB : BT (RTok × RTok) → Nat
  | .nil => 0
  | .node 0 _ a _ _ => 1
  | .node 1 _ a e _ => numB e + 1
  | .node 2 _ a l r => numB l + numB r + 1
  | .node _ _ a e _ => numB e
def flatB : Nat → BT (RTok × RTok) → List PNode
  | _, .nil => []
  | _, .node 0 _ a _ _ => [⟨a.1, 0, 0, 0⟩]
  | b, .node 1 _ a e _ => flatB b e ++ [⟨a.1, 1, b + numB e - 1, 0⟩]
  | b, .node 2 _ a l r => flatB b l ++ flatB (b + numB l) r ++ [⟨a.1, 2, b + numB l - 1, b + numB l + numB r - 1⟩]
  | b, .node _ _ a e _ => flatB b e
def Tr.num (t : Tr) : Nat := numB t
def Tr.flat (b : Nat) (t : Tr) : List PNode := flatB b t
theorem Tr.num_leaf (t : RTok) : (Tr.leaf t).num = 1 := rfl
theorem Tr.num_un (op : RTok) (e : Tr) : (Tr.un op e).num = e.num + 1 := rfl
theorem Tr.num_bin (op : RTok) (l r : Tr) : (Tr.bin op l r).num = l.num + r.num + 1 := rfl
theorem Tr.num_par (o : RTok) (e : Tr) (c : RTok) : (Tr.par o e c).num = e.num := rfl
theorem Tr.flat_leaf (b : Nat) (t : RTok) : (Tr.leaf t).flat b = [⟨t, 0, 0, 0⟩] := rfl
theorem Tr.flat_un (b : Nat) (op : RTok) (e : Tr) : (Tr.un op e).flat b = e.flat b ++ [⟨op, 1, b + e.num - 1, 0⟩] := rfl
theorem Tr.flat_bin (b : Nat) (op : RTok) (l r : Tr) : (Tr.bin op l r).flat b = l.flat b ++ r.flat (b + l.num) ++ [⟨op, 2, b + l.num - 1, b + l.num + r.num - 1⟩] := rfl
theorem Tr.flat_par (b : Nat) (o : RTok) (e : Tr) (c : RTok) : (Tr.par o e c).flat b = e.flat b := rfl
theorem Tr.num_pos (t : Tr) (h : t.wf) : 1 ≤ t.num := by
  refine Tr.ind (P := fun t => 1 ≤ t.num) t h ?_ ?_ ?_ ?_
  · intro t _; rw [Tr.num_leaf]; omega
  · intro op e _ _; rw [Tr.num_un]; omega
  · intro op l r _ _ _; rw [Tr.num_bin]; omega
  · intro o e c _ he; rw [Tr.num_par]; exact he
theorem Tr.num_le (t : Tr) (h : t.wf) : t.num ≤ t.toks.length := by
  refine Tr.ind (P := fun t => t.num ≤ t.toks.length) t h ?_ ?_ ?_ ?_
  · intro t _; rw [Tr.num_leaf, Tr.toks_leaf]; simp
  · intro op e _ he; rw [Tr.num_un, Tr.toks_un]; simp; omega
  · intro op l r _ h1 h2; rw [Tr.num_bin, Tr.toks_bin]; simp; omega
  · intro o e c _ he; rw [Tr.num_par, Tr.toks_par]; simp; omega
theorem Tr.flat_len (t : Tr) (h : t.wf) : ∀ b, (t.flat b).length = t.num := by
  refine Tr.ind (P := fun t => ∀ b, (t.flat b).length = t.num) t h ?_ ?_ ?_ ?_
  · intro t _ b; rfl
  · intro op e _ he b; rw [Tr.flat_un, Tr.num_un, List.length_append, he]; rfl
  · intro op l r _ h1 h2 b; rw [Tr.flat_bin, Tr.num_bin, List.length_append, List.length_append, h1, h2]; rfl
  · intro o e c _ he b; rw [Tr.flat_par, Tr.num_par, he]
theorem goS_append : ∀ (a b : List RTok) (p : Spot), goS p (a ++ b) = match goS p a with | .ok q => goS q b | .error e => .error e
  | [], b, p => rfl
  | t :: r, b, p => by
    simp only [List.cons_append, goS]
    split
    · exact goS_append r b _
    · rfl
theorem goS_ok {a b : List RTok} {p q : Spot} (h : goS p a = .ok q) : goS p (a ++ b) = goS q b := by rw [goS_append, h]
theorem goS_cons {t : RTok} {r : List RTok} {p q : Spot} (h : stepS p t.text = (q, true)) : goS p (t :: r) = goS q r := by simp only [goS, h, if_true]
structure BadS (p : Spot) (l : List RTok) (k : Nat) : Prop where
  le : k ≤ l.length
  ex : ∃ q, goS p (l.take k) = .ok q ∧ (l.length ≤ k → q.next ≠ 6) ∧ ∀ h : k < l.length, (stepS q l[k].text).2 = false
theorem BadS.here2 {p : Spot} {l : List RTok} (hp : l = [] → p.next ≠ 6) (h : ∀ a r, l = a :: r → (stepS p a.text).2 = false) : BadS p l 0 := by
  refine ⟨Nat.zero_le _, p, rfl, fun hl => hp (List.eq_nil_of_length_eq_zero (by omega)), fun hl => ?_⟩
  cases l with
  | nil => cases hl
  | cons a r => exact h a r rfl
theorem BadS.here {p : Spot} {l : List RTok} (hp : p.next ≠ 6) (h : ∀ a r, l = a :: r → (stepS p a.text).2 = false) : BadS p l 0 := BadS.here2 (fun _ => hp) h
theorem BadS.behind {p q : Spot} {a b : List RTok} {k : Nat} (h : goS p a = .ok q) (hb : BadS q b k) : BadS p (a ++ b) (a.length + k) := by
  obtain ⟨h1, q', h2, h3, h4⟩ := hb
  refine ⟨by simp; omega, q', ?_, fun hh => h3 (by simp at hh; omega), fun hl => ?_⟩
  · rw [List.take_length_add_append, goS_ok h]; exact h2
  · rw [List.getElem_append_right (by omega)]
    have := h4 (by simp at hl; omega)
    simpa using this
theorem BadS.one {p q : Spot} {t : RTok} {b : List RTok} {k : Nat} (h : stepS p t.text = (q, true)) (hb : BadS q b k) : BadS p (t :: b) (k + 1) := by
  have := BadS.behind (a := [t]) (p := p) (q := q) (by rw [goS_cons h]; rfl) hb
  rw [show k + 1 = [t].length + k by simp; omega]
  exact this
structure GotO (d : Nat) (l : List RTok) (t : Tr) (rest : List RTok) : Prop where
  eq : l = t.toks ++ rest
  wf : t.wf
  go : ∀ x, goS ⟨3, x, d⟩ t.toks = .ok ⟨4, x, d⟩
def stops (least : Nat) (rest : List RTok) : Prop := ∀ a r, rest = a :: r → bindsT a.text < least ∨ bindsT a.text = 0
def BadV (d : Nat) (l : List RTok) (k : Nat) : Prop := ∀ x, BadS ⟨3, x, d⟩ l k
theorem value_leaf {a : RTok} (hm : mayT a.text = true) (hs : singleT a.text = true) (x d : Nat) : stepS ⟨3, x, d⟩ a.text = (⟨4, x, d⟩, true) := by
  have K := kindOf _ hm
  have h1 : singleK (kindP a.text) = true := by rw [K.single]; exact hs
  have n1 : a.text ≠ cMinus := fun e => by rw [K.kminus.2 e] at h1; cases h1
  have n2 : a.text ≠ cNot := fun e => by rw [K.knot.2 e] at h1; cases h1
  have n3 : a.text ≠ cOpen := fun e => by rw [K.kopen.2 e] at h1; cases h1
  unfold singleT at hs
  simp [stepS, valueS, n1, n2, n3, hs]
theorem leaf_wf {a : RTok} (hm : mayT a.text = true) (hs : singleT a.text = true) : (Tr.leaf a).wf := by
  have K := kindOf _ hm
  have h1 : singleK (kindP a.text) = true := by rw [K.single]; exact hs
  have n1 : a.text ≠ cMinus := fun e => by rw [K.kminus.2 e] at h1; cases h1
  have n2 : a.text ≠ cNot := fun e => by rw [K.knot.2 e] at h1; cases h1
  have n3 : a.text ≠ cOpen := fun e => by rw [K.kopen.2 e] at h1; cases h1
  have n4 : a.text ≠ cClose := fun e => by rw [K.kclose.2 e] at h1; cases h1
  refine ⟨⟨rfl, rfl, rfl, rfl⟩, hs, n3, n4, by simp [unT, n1, n2], ?_⟩
  rw [← K.binds]
  unfold singleK at h1
  simp only [Bool.or_eq_true, Bool.and_eq_true, decide_eq_true_eq] at h1
  unfold bindK
  split; omega
  split; omega
  split; omega
  split; omega
  split; omega
  rfl
theorem GotO.leaf {a : RTok} {r : List RTok} (hm : mayT a.text = true) (hs : singleT a.text = true) (d : Nat) : GotO d (a :: r) (Tr.leaf a) r :=
  ⟨rfl, leaf_wf hm hs, fun x => by rw [Tr.toks_leaf, goS_cons (value_leaf hm hs x d)]; rfl⟩
theorem value_un {a : RTok} (hu : unT a.text = true) (x d : Nat) : stepS ⟨3, x, d⟩ a.text = (⟨3, x, d⟩, true) := by
  unfold unT at hu
  simp only [stepS, valueS, hu, if_true]
  rfl
theorem GotO.un {op : RTok} {r rest : List RTok} {d : Nat} {t : Tr} (hu : unT op.text = true) (h : GotO d r t rest) (hl : t.level = 6) : GotO d (op :: r) (Tr.un op t) rest :=
  ⟨by rw [h.eq]; rfl, ⟨⟨rfl, rfl, rfl⟩, hu, hl, h.wf⟩, fun x => by rw [Tr.toks_un, goS_cons (value_un hu x d)]; exact h.go x⟩
theorem BadV.un {op : RTok} {r : List RTok} {d k : Nat} (hu : unT op.text = true) (h : BadV d r k) : BadV d (op :: r) (k + 1) := fun x => BadS.one (value_un hu x d) (h x)
theorem value_open {a : RTok} (ho : a.text = cOpen) (x d : Nat) (hd : d < 8) : stepS ⟨3, x, d⟩ a.text = (⟨3, x, d + 1⟩, true) := by
  have : d + 1 ≤ 8 := hd
  simp [stepS, valueS, ho, cOpen, cMinus, cNot, this]
theorem after_close {a : RTok} (hc : a.text = cClose) (x d : Nat) : stepS ⟨4, x, d + 1⟩ a.text = (⟨4, x, d⟩, true) := by
  simp [stepS, afterS, hc, show jointT cClose = false by decide]
theorem GotO.par {o c : RTok} {r rest : List RTok} {d : Nat} {t : Tr} (ho : o.text = cOpen) (hc : c.text = cClose) (hd : d < 8) (h : GotO (d + 1) r t (c :: rest)) : GotO d (o :: r) (Tr.par o t c) rest :=
  ⟨by rw [h.eq, Tr.toks_par]; simp, ⟨⟨rfl, rfl⟩, ho, hc, h.wf⟩, fun x => by rw [Tr.toks_par, goS_cons (value_open ho x d hd), goS_ok (h.go x), goS_cons (after_close hc x d)]; rfl⟩
theorem BadV.par {o : RTok} {r : List RTok} {d k : Nat} (ho : o.text = cOpen) (hd : d < 8) (h : BadV (d + 1) r k) : BadV d (o :: r) (k + 1) := fun x => BadS.one (value_open ho x d hd) (h x)
theorem BadV.close {o : RTok} {r rest : List RTok} {d : Nat} {t : Tr} (ho : o.text = cOpen) (hd : d < 8) (h : GotO (d + 1) r t rest) (hs : stops 1 rest) (hc : ∀ a r', rest = a :: r' → a.text ≠ cClose) : BadV d (o :: r) (t.toks.length + 1) := by
  intro x
  refine BadS.one (value_open ho x d hd) ?_
  rw [h.eq]
  have := BadS.behind (h.go x) (BadS.here (p := ⟨4, x, d + 1⟩) (l := rest) (by simp) fun a r' e => ?_)
  · exact this
  · have h1 := hs a r' e
    have h2 : jointT a.text = false := by
      cases hj : jointT a.text with
      | false => rfl
      | true => have := (joint_binds _).1 hj; omega
    simp [stepS, afterS, h2]
    exact hc a r' e
theorem BadV.none {l : List RTok} {d : Nat} (h : ∀ a r, l = a :: r → mayT a.text = true ∧ singleT a.text = false ∧ unT a.text = false ∧ (a.text = cOpen → 8 ≤ d)) : BadV d l 0 := by
  intro x
  refine BadS.here (by simp) fun a r e => ?_
  obtain ⟨h0, h1, h2, h3⟩ := h a r e
  unfold singleT at h1
  unfold unT at h2
  by_cases ho : a.text = cOpen
  · have := h3 ho
    simp [stepS, valueS, ho, cOpen, cMinus, cNot]
    omega
  · simp at h1 h2
    simp [stepS, valueS, h1, h2, ho]
theorem after_joint {a : RTok} (hj : 0 < bindsT a.text) (x d : Nat) : stepS ⟨4, x, d⟩ a.text = (⟨3, x, d⟩, true) := by
  simp [stepS, afterS, (joint_binds a.text).2 hj]
theorem BadV.right {l r : List RTok} {op : RTok} {d k : Nat} {t : Tr} (h : GotO d l t (op :: r)) (hj : 0 < bindsT op.text) (hb : BadV d r k) : BadV d l (t.toks.length + (k + 1)) := by
  intro x
  rw [h.eq]
  exact BadS.behind (h.go x) (BadS.one (after_joint hj x d) (hb x))
theorem GotO.bin {l r rest : List RTok} {op : RTok} {d : Nat} {t u : Tr} (hm : mayT op.text = true) (h : GotO d l t (op :: r)) (hj : 0 < bindsT op.text) (hl : bindsT op.text ≤ t.level) (g : GotO d r u rest) (hr : bindsT op.text < u.level) : GotO d l (Tr.bin op t u) rest := by
  have K := kindOf _ hm
  have n3 : op.text ≠ cOpen := fun e => by rw [e] at hj; revert hj; decide
  have n4 : op.text ≠ cClose := fun e => by rw [e] at hj; revert hj; decide
  refine ⟨by rw [h.eq, g.eq, Tr.toks_bin]; simp, ⟨⟨rfl, rfl⟩, hj, n3, n4, hl, hr, h.wf, g.wf⟩, fun x => ?_⟩
  rw [Tr.toks_bin, goS_ok (h.go x), goS_cons (after_joint hj x d)]
  exact g.go x
end Go.Proofs.YtjjbmbjmdgoofaaGreatDoor
namespace Go.Proofs.YtjjbmbjmdgoofaaGreatDoor
open Go.Deep
theorem no_joint {a : RTok} {rest r : List RTok} (hs : stops 1 rest) (e : rest = a :: r) : jointT a.text = false := by
  have h1 := hs a r e
  cases hj : jointT a.text with
  | false => rfl
  | true => have := (joint_binds _).1 hj; omega
def RuleAt (p : Spot) : Prop := (p.next = 0 ∨ p.next = 6) ∧ p.opn = 0
theorem rule_step {p : Spot} (hp : RuleAt p) {t : Txt} (h : p.next = 0 → t ≠ cLet) : stepS p t = ruleS p t true := by
  obtain ⟨h1 | h1, h2⟩ := hp
  · have := h h1
    simp [stepS, h1, this]
  · simp [stepS, h1]
theorem let_one {t : Txt} (h : t = cLet) : stepS ⟨0, 0, 0⟩ t = (⟨1, 0, 0⟩, true) := by subst h; rfl
theorem let_two {t : Txt} (h : nameT t = true) : stepS ⟨1, 0, 0⟩ t = (⟨2, 0, 0⟩, true) := by simp [stepS, h]
theorem let_two_bad {t : Txt} (h : nameT t = false) : (stepS ⟨1, 0, 0⟩ t).2 = false := by simp [stepS, h]
theorem let_three {t : Txt} (h : t = cEq) : stepS ⟨2, 0, 0⟩ t = (⟨3, 0, 0⟩, true) := by subst h; rfl
theorem let_three_bad {t : Txt} (h : t ≠ cEq) : (stepS ⟨2, 0, 0⟩ t).2 = false := by simp [stepS, h]
theorem let_end {t : Txt} (h : t = cSemi) : stepS ⟨4, 0, 0⟩ t = (⟨0, 0, 0⟩, true) := by subst h; rfl
theorem let_end_bad {t : Txt} (hj : jointT t = false) (h : t ≠ cSemi) : (stepS ⟨4, 0, 0⟩ t).2 = false := by simp [stepS, afterS, hj, h]
theorem score_end {t : Txt} (h : t = cSemi) : stepS ⟨4, 2, 0⟩ t = (⟨6, 2, 0⟩, true) := by subst h; rfl
theorem score_end_bad {t : Txt} (hj : jointT t = false) (h : t ≠ cSemi) : (stepS ⟨4, 2, 0⟩ t).2 = false := by simp [stepS, afterS, hj, h]
theorem rej_end {x : Nat} {t : Txt} (h : t = cSemi) : stepS ⟨5, x, 0⟩ t = (⟨6, x, 0⟩, true) := by subst h; rfl
theorem rej_end_bad {x : Nat} {t : Txt} (h : t ≠ cSemi) : (stepS ⟨5, x, 0⟩ t).2 = false := by simp [stepS, h]
theorem when_rule {t : Txt} (hj : jointT t = false) : stepS ⟨4, 1, 0⟩ t = ruleS ⟨4, 1, 0⟩ t false := by simp [stepS, afterS, hj]
structure GotS (p : Spot) (l : List RTok) (s : RSt) (rest : List RTok) (q : Spot) : Prop where
  eq : l = s.toks ++ rest
  wf : s.wf
  go : goS p s.toks = .ok q
theorem let_got {kw name eq semi : RTok} {r rest : List RTok} {e : Tr} (h1 : kw.text = cLet) (h2 : nameT name.text = true) (h3 : eq.text = cEq) (g : GotO 0 r e (semi :: rest)) (h4 : semi.text = cSemi) :
    GotS ⟨0, 0, 0⟩ (kw :: name :: eq :: r) (.letS kw name eq e semi) rest ⟨0, 0, 0⟩ := by
  refine ⟨?_, ⟨h1, h2, h3, g.wf, h4⟩, ?_⟩
  · rw [g.eq, RSt.toks, RSt.body_let]; simp [RSt.letS, RSt.semi]
  · simp only [RSt.toks, RSt.body_let, List.cons_append]
    rw [goS_cons (let_one h1), goS_cons (let_two h2), goS_cons (let_three h3), goS_ok (g.go 0)]
    exact goS_cons (let_end h4)
theorem let_bad_name {kw : RTok} {l : List RTok} (h1 : kw.text = cLet) (h : ∀ a r, l = a :: r → nameT a.text = false) : BadS ⟨0, 0, 0⟩ (kw :: l) 1 :=
  BadS.one (let_one h1) (BadS.here (by simp) fun a r e => let_two_bad (h a r e))
theorem let_bad_eq {kw name : RTok} {l : List RTok} (h1 : kw.text = cLet) (h2 : nameT name.text = true) (h : ∀ a r, l = a :: r → a.text ≠ cEq) : BadS ⟨0, 0, 0⟩ (kw :: name :: l) 2 :=
  BadS.one (let_one h1) (BadS.one (let_two h2) (BadS.here (by simp) fun a r e => let_three_bad (h a r e)))
theorem let_bad_expr {kw name eq : RTok} {l : List RTok} {k : Nat} (h1 : kw.text = cLet) (h2 : nameT name.text = true) (h3 : eq.text = cEq) (h : BadV 0 l k) : BadS ⟨0, 0, 0⟩ (kw :: name :: eq :: l) (k + 3) :=
  BadS.one (let_one h1) (BadS.one (let_two h2) (BadS.one (let_three h3) (h 0)))
theorem let_bad_end {kw name eq : RTok} {l rest : List RTok} {e : Tr} (h1 : kw.text = cLet) (h2 : nameT name.text = true) (h3 : eq.text = cEq) (g : GotO 0 l e rest) (hs : stops 1 rest) (h : ∀ a r, rest = a :: r → a.text ≠ cSemi) : BadS ⟨0, 0, 0⟩ (kw :: name :: eq :: l) (e.toks.length + 3) := by
  refine BadS.one (let_one h1) (BadS.one (let_two h2) (BadS.one (let_three h3) ?_))
  rw [g.eq]
  exact (BadS.here (p := ⟨4, 0, 0⟩) (by simp) fun a r e => let_end_bad (no_joint hs e) (h a r e)).behind (g.go 0)
theorem ruleS_score {p : Spot} {t : Txt} {b : Bool} (h : t = cScore) (ho : p.opn = 0) : ruleS p t b = (⟨3, 2, 0⟩, true) := by
  subst h; simp [ruleS, ho, cScore, cWhen]
theorem ruleS_rej {p : Spot} {t : Txt} {b : Bool} (h : t = cReject) (ho : p.opn = 0) : ruleS p t b = (⟨5, p.expr, 0⟩, true) := by
  subst h; simp [ruleS, ho, cScore, cWhen, cReject]
theorem ruleS_when {p : Spot} {t : Txt} (h : t = cWhen) (ho : p.opn = 0) : ruleS p t true = (⟨3, 1, 0⟩, true) := by
  subst h; simp [ruleS, ho]
theorem ruleS_bad {p : Spot} {t : Txt} {b : Bool} (h1 : b = true → t ≠ cWhen) (h2 : t ≠ cScore) (h3 : t ≠ cReject) : (ruleS p t b).2 = false := by
  cases b with
  | false => simp [ruleS, h2, h3]
  | true => simp [ruleS, h2, h3, h1 rfl]
structure Acts (p : Spot) (b : Bool) (l : List RTok) : Prop where
  opn : p.opn = 0
  nx : ∀ a r, l = a :: r → stepS p a.text = ruleS p a.text b
theorem acts_bad_score {p : Spot} {b : Bool} {act : RTok} {r : List RTok} {k : Nat} (A : Acts p b (act :: r)) (h1 : act.text = cScore) (g : BadV 0 r k) : BadS p (act :: r) (k + 1) :=
  BadS.one ((A.nx act r rfl).trans (ruleS_score h1 A.opn)) (g 2)
theorem acts_bad_here {p : Spot} {b : Bool} {l : List RTok} (A : Acts p b l) (hp : l = [] → p.next ≠ 6) (h : ∀ a r, l = a :: r → (b = true → a.text ≠ cWhen) ∧ a.text ≠ cScore ∧ a.text ≠ cReject) : BadS p l 0 :=
  BadS.here2 hp fun a r e => by rw [A.nx a r e]; exact ruleS_bad (h a r e).1 (h a r e).2.1 (h a r e).2.2
theorem acts_first {p : Spot} {l : List RTok} (hp : RuleAt p) (h : p.next = 0 → ∀ a r, l = a :: r → a.text ≠ cLet) : Acts p true l :=
  ⟨hp.2, fun a r e => rule_step hp fun h0 => h h0 a r e⟩
theorem acts_when {rest : List RTok} (hs : stops 1 rest) : Acts ⟨4, 1, 0⟩ false rest := ⟨rfl, fun a r e => when_rule (no_joint hs e)⟩
theorem when_go {p : Spot} {w : RTok} {r rest : List RTok} {e : Tr} (A : Acts p true (w :: r)) (h : w.text = cWhen) (g : GotO 0 r e rest) : goS p (w :: e.toks) = .ok ⟨4, 1, 0⟩ := by
  rw [goS_cons ((A.nx w r rfl).trans (ruleS_when h A.opn))]; exact g.go 1
theorem when_bad {p : Spot} {w : RTok} {r : List RTok} {k : Nat} (A : Acts p true (w :: r)) (h : w.text = cWhen) (g : BadV 0 r k) : BadS p (w :: r) (k + 1) :=
  BadS.one ((A.nx w r rfl).trans (ruleS_when h A.opn)) (g 1)
end Go.Proofs.YtjjbmbjmdgoofaaGreatDoor
namespace Go.Proofs.YtjjbmbjmdgoofaaGreatDoor
open Go.Deep
structure PExp where
  place : Nat
  fr : Nat
  behind : Nat
structure PLet where
  name : RTok
  val : PExp
structure PRule where
  hw : Bool
  when : PExp
  hs : Bool
  score : PExp
def noExp : PExp := ⟨0, 0, 0⟩
def layE (b : Nat) (t : Tr) : PExp := ⟨firstAt t, b, b + t.num⟩
def optNum : Option Tr → Nat
  | none => 0
  | some t => t.num
def optNodes (b : Nat) : Option Tr → List PNode
  | none => []
  | some t => t.flat b
def optE (b : Nat) : Option Tr → PExp
  | none => noExp
  | some t => layE b t
def RSt.num (s : RSt) : Nat := Sum.elim (fun d : LetD => d.e.num) (fun d : RuleD => optNum (d.wh.map Prod.snd) + optNum d.sc) s
def RSt.nodes (b : Nat) (s : RSt) : List PNode := Sum.elim (fun d : LetD => d.e.flat b) (fun d : RuleD => optNodes b (d.wh.map Prod.snd) ++ optNodes (b + optNum (d.wh.map Prod.snd)) d.sc) s
def RSt.lets (b : Nat) (s : RSt) : List PLet := Sum.elim (fun d : LetD => [⟨d.name, layE b d.e⟩]) (fun _ : RuleD => []) s
def RSt.rules (b : Nat) (s : RSt) : List PRule := Sum.elim (fun _ : LetD => []) (fun d : RuleD => [⟨d.wh.isSome, optE b (d.wh.map Prod.snd), d.sc.isSome, optE (b + optNum (d.wh.map Prod.snd)) d.sc⟩]) s
def numS : List RSt → Nat
  | [] => 0
  | s :: r => s.num + numS r
def nodesS : Nat → List RSt → List PNode
  | _, [] => []
  | b, s :: r => s.nodes b ++ nodesS (b + s.num) r
def letsS : Nat → List RSt → List PLet
  | _, [] => []
  | b, s :: r => s.lets b ++ letsS (b + s.num) r
def rulesS : Nat → List RSt → List PRule
  | _, [] => []
  | b, s :: r => s.rules b ++ rulesS (b + s.num) r
theorem nodesS_append : ∀ (a b : List RSt) (k : Nat), nodesS k (a ++ b) = nodesS k a ++ nodesS (k + numS a) b
  | [], b, k => by simp [nodesS, numS]
  | s :: r, b, k => by simp only [List.cons_append, nodesS, numS, nodesS_append r b, List.append_assoc, Nat.add_assoc]
theorem letsS_append : ∀ (a b : List RSt) (k : Nat), letsS k (a ++ b) = letsS k a ++ letsS (k + numS a) b
  | [], b, k => by simp [letsS, numS]
  | s :: r, b, k => by simp only [List.cons_append, letsS, numS, letsS_append r b, List.append_assoc, Nat.add_assoc]
theorem rulesS_append : ∀ (a b : List RSt) (k : Nat), rulesS k (a ++ b) = rulesS k a ++ rulesS (k + numS a) b
  | [], b, k => by simp [rulesS, numS]
  | s :: r, b, k => by simp only [List.cons_append, rulesS, numS, rulesS_append r b, List.append_assoc, Nat.add_assoc]
theorem RSt.num_let (kw name eq : RTok) (e : Tr) (semi : RTok) : (RSt.letS kw name eq e semi).num = e.num := rfl
theorem RSt.num_rule (wh : Option (RTok × Tr)) (act : RTok) (sc : Option Tr) (semi : RTok) : (RSt.rule wh act sc semi).num = optNum (wh.map Prod.snd) + optNum sc := rfl
theorem RSt.nodes_let (b : Nat) (kw name eq : RTok) (e : Tr) (semi : RTok) : (RSt.letS kw name eq e semi).nodes b = e.flat b := rfl
theorem RSt.nodes_rule (b : Nat) (wh : Option (RTok × Tr)) (act : RTok) (sc : Option Tr) (semi : RTok) : (RSt.rule wh act sc semi).nodes b = optNodes b (wh.map Prod.snd) ++ optNodes (b + optNum (wh.map Prod.snd)) sc := rfl
theorem RSt.lets_let (b : Nat) (kw name eq : RTok) (e : Tr) (semi : RTok) : (RSt.letS kw name eq e semi).lets b = [⟨name, layE b e⟩] := rfl
theorem RSt.lets_rule (b : Nat) (wh : Option (RTok × Tr)) (act : RTok) (sc : Option Tr) (semi : RTok) : (RSt.rule wh act sc semi).lets b = [] := rfl
theorem RSt.rules_let (b : Nat) (kw name eq : RTok) (e : Tr) (semi : RTok) : (RSt.letS kw name eq e semi).rules b = [] := rfl
theorem RSt.rules_rule (b : Nat) (wh : Option (RTok × Tr)) (act : RTok) (sc : Option Tr) (semi : RTok) : (RSt.rule wh act sc semi).rules b = [⟨wh.isSome, optE b (wh.map Prod.snd), sc.isSome, optE (b + optNum (wh.map Prod.snd)) sc⟩] := rfl
theorem optNodes_len (o : Option Tr) (h : ∀ e, o = some e → e.wf) (b : Nat) : (optNodes b o).length = optNum o := by
  cases o with
  | none => rfl
  | some e => exact e.flat_len (h e rfl) b
theorem RSt.nodes_len (s : RSt) (h : s.wf) (b : Nat) : (s.nodes b).length = s.num := by
  rcases s.cases with ⟨kw, name, eq, e, semi, rfl⟩ | ⟨wh, act, sc, semi, rfl⟩
  · exact e.flat_len h.2.2.2.1 b
  · rw [RSt.nodes_rule, RSt.num_rule, List.length_append, optNodes_len _ _, optNodes_len _ _]
    · exact fun e he => h.2.2.1 e he
    · intro e he
      cases wh with
      | none => cases he
      | some p => cases he; exact (h.1 p.1 p.2 rfl).2
theorem nodesS_len : ∀ (l : List RSt), (∀ s ∈ l, s.wf) → ∀ b, (nodesS b l).length = numS l
  | [], _, _ => rfl
  | s :: r, h, b => by
    simp only [nodesS, numS, List.length_append, s.nodes_len (h s (by simp)) b, nodesS_len r (fun x hx => h x (by simp [hx]))]
def segE (N : List PNode) (e : PExp) : List PNode := (N.drop e.fr).take (e.behind - e.fr)
def letIx (ls : List PLet) (t : Txt) : Nat := ls.findIdx (fun p => p.name.text == t)
theorem letIx_le (ls : List PLet) (t : Txt) : letIx ls t ≤ ls.length := List.findIdx_le_length
def namesE (ls : List PLet) (ahead : Nat) : List PNode → Option Nat
  | [] => none
  | n :: r => if nameT n.tok.text && decide (ahead ≤ letIx ls n.tok.text) then some n.tok.at' else namesE ls ahead r
end Go.Proofs.YtjjbmbjmdgoofaaGreatDoor
