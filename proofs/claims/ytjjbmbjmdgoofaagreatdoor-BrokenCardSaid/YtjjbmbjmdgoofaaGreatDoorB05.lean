/-
  The kinds of values of a policy: the document's look and the program's agree: plain.
-/
import Derived.Test.YtjjbmbjmdgoofaaGreatDoorB04
set_option linter.unusedVariables false
set_option linter.unusedSimpArgs false
namespace Go.Proofs.YtjjbmbjmdgoofaaGreatDoor
open Go.Deep
def kindOne (k : Nat) : Nat :=
  if k = 1 ∨ k = 15 ∨ k = 16 ∨ k = 18 ∨ k = 19 ∨ k = 20 then 1
  else if k = 10 ∨ k = 11 then 2
  else if k = 12 ∨ k = 13 ∨ k = 14 ∨ k = 17 ∨ k = 21 then 3
  else 0
def kindUn (op a : Nat) : Nat := if op = 28 ∧ a = 1 then 1 else if op = 9 ∧ a = 2 then 2 else 0
def kindBin (op a b : Nat) : Nat :=
  if a ≠ b then 0
  else if op = 23 ∨ op = 24 then 2
  else if op = 25 ∨ op = 26 then (if a = 1 then 2 else 0)
  else if op = 7 ∨ op = 8 then (if a = 2 then 2 else 0)
  else if op = 27 ∨ op = 28 ∨ op = 29 ∨ op = 30 ∨ op = 31 then (if a = 1 then 1 else 0)
  else 0
def kindAt (ks : List Nat) (e : PExp) : Nat := ks.getD (e.behind - 1) 0
def nodeK (ls : List PLet) (ks : List Nat) (n : PNode) : Nat :=
  if n.ops = 1 then kindUn (kindP n.tok.text) (ks.getD n.left 0)
  else if n.ops = 2 then kindBin (kindP n.tok.text) (ks.getD n.left 0) (ks.getD n.right 0)
  else if kindP n.tok.text = 2 then (match ls[letIx ls n.tok.text]? with | some p => kindAt ks p.val | none => 0)
  else kindOne (kindP n.tok.text)
def failK (f : Option Nat) (bad : Bool) (p : Nat) : Option Nat := match f with
  | some q => some q
  | none => if bad then some p else none
def lookGo (ls : List PLet) : List Nat → Option Nat → List PNode → List Nat × Option Nat
  | ks, f, [] => (ks, f)
  | ks, f, n :: r => lookGo ls (ks ++ [nodeK ls ks n]) (failK f (nodeK ls ks n == 0) n.tok.at') r
theorem failK_some (q : Nat) (b : Bool) (p : Nat) : failK (some q) b p = some q := rfl
theorem lookGo_append (ls : List PLet) : ∀ (a b : List PNode) (ks : List Nat) (f : Option Nat), lookGo ls ks f (a ++ b) = lookGo ls (lookGo ls ks f a).1 (lookGo ls ks f a).2 b
  | [], b, ks, f => rfl
  | n :: r, b, ks, f => by simp only [List.cons_append, lookGo, lookGo_append ls r b]
theorem lookGo_some (ls : List PLet) : ∀ (l : List PNode) (ks : List Nat) (q : Nat), (lookGo ls ks (some q) l).2 = some q ∧ ∃ ks', ks'.length = l.length ∧ (lookGo ls ks (some q) l).1 = ks ++ ks'
  | [], ks, q => ⟨rfl, [], rfl, by simp [lookGo]⟩
  | n :: r, ks, q => by
    obtain ⟨h1, ks', h2, h3⟩ := lookGo_some ls r (ks ++ [nodeK ls ks n]) q
    refine ⟨h1, nodeK ls ks n :: ks', by simp [h2], ?_⟩
    simp only [lookGo, failK_some]; rw [h3]; simp
theorem getD_left {a b : List Nat} {i : Nat} (h : i < a.length) : (a ++ b).getD i 0 = a.getD i 0 := by
  simp only [List.getD_eq_getElem?_getD, List.getElem?_append_left h]
theorem getD_last (a : List Nat) (x : Nat) (i : Nat) (h : i = a.length) : (a ++ [x]).getD i 0 = x := by
  subst h; simp [List.getD_eq_getElem?_getD]
theorem kind_single {t : Txt} (hm : mayT t = true) (hs : singleT t = true) (hn : nameT t = false) : kindP t ≠ 2 ∧ kindOne (kindP t) = leafKindT t ∧ leafKindT t ≠ 0 := by
  have K := kindOf t hm
  have h2 : kindP t ≠ 2 := fun h => by rw [K.kname.1 h] at hn; cases hn
  refine ⟨h2, ?_⟩
  rcases kind_cases t hm with ⟨hd, hk⟩ | ⟨_, _, hk⟩ | ⟨k, hk, rfl, hk2⟩ | ⟨k, hk, rfl, hk2⟩
  · rw [hk]
    have hh : 48 ≤ headC t ∧ headC t ≤ 57 := by simpa [isDig] using hd
    have n1 : ∀ u : Txt, ¬ (48 ≤ headC u ∧ headC u ≤ 57) → t ≠ u := fun u hu e => hu (by rw [← e]; exact hh)
    have a1 : (t == cTrue) = false := by simpa using n1 cTrue (by decide)
    have a2 : (t == cFalse) = false := by simpa using n1 cFalse (by decide)
    have a3 : classT t = false := by
      simp only [classT, tClass, List.contains_cons, List.contains_nil, Bool.or_false, Bool.or_eq_false_iff, beq_eq_false_iff_ne]
      exact ⟨n1 _ (by decide), n1 _ (by decide), n1 _ (by decide), n1 _ (by decide), n1 _ (by decide)⟩
    simp [leafKindT, a1, a2, a3, kindOne]
  · exact absurd hk h2
  · have : ∀ k (hk : k < 19), singleT (tWords[k]'hk) = true → kindOne (3 + k) = leafKindT (tWords[k]'hk) ∧ leafKindT (tWords[k]'hk) ≠ 0 := by decide
    rw [hk2]
    exact this k hk hs
  · have : ∀ k (hk : k < 12), singleT (tSign[k]'hk) = false := by decide
    rw [this k hk] at hs
    cases hs
theorem kind_un {t : Txt} (hm : mayT t = true) (hu : unT t = true) (a : Nat) : kindUn (kindP t) a = madeT t a a := by
  simp only [unT, Bool.or_eq_true, beq_iff_eq] at hu
  rcases hu with rfl | rfl
  · rw [show kindP cMinus = 28 by decide]
    by_cases h : a = 1
    · subst h; decide
    · simp [kindUn, madeT, h, show (cMinus == cAnd) = false by decide, show (cMinus == cOr) = false by decide, show (cMinus == cNot) = false by decide, show (cMinus == cEq) = false by decide, show (cMinus == cNeq) = false by decide]
  · rw [show kindP cNot = 9 by decide]
    by_cases h : a = 2
    · subst h; decide
    · simp [kindUn, madeT, h]
theorem kind_bin {t : Txt} (hb : 0 < bindsT t) (a b : Nat) : kindBin (kindP t) a b = madeT t a b := by
  have hj := (joint_binds t).2 hb
  simp only [jointT, tJoint, List.contains_cons, List.contains_nil, Bool.or_false, Bool.or_eq_true, beq_iff_eq] at hj
  rcases hj with rfl | rfl | rfl | rfl | rfl | rfl | rfl | rfl | rfl | rfl | rfl
  all_goals
    simp only [kindBin, madeT, show kindP [111, 114] = 8 by decide, show kindP [97, 110, 100] = 7 by decide, show kindP [61] = 23 by decide, show kindP [33, 61] = 24 by decide, show kindP [60] = 25 by decide, show kindP [60, 61] = 26 by decide, show kindP [43] = 27 by decide, show kindP [45] = 28 by decide, show kindP [42] = 29 by decide, show kindP [47] = 30 by decide, show kindP [37] = 31 by decide]
    simp [cAnd, cOr, cNot, cEq, cNeq, cLess, cMost]
    repeat' split
    all_goals omega
def Scoped (ls : List PLet) (ks : List Nat) (c : List (Txt × Nat)) (x : Txt) : Prop := ∃ p, ls[letIx ls x]? = some p ∧ 1 ≤ p.val.behind ∧ p.val.behind ≤ ks.length ∧ kindAt ks p.val = knownT c x ∧ knownT c x ≠ 0
theorem Scoped.more {ls : List PLet} {ks : List Nat} {c : List (Txt × Nat)} {x : Txt} (h : Scoped ls ks c x) (ks' : List Nat) : Scoped ls (ks ++ ks') c x := by
  obtain ⟨p, h1, h2, h3, h4, h5⟩ := h
  refine ⟨p, h1, h2, by simp; omega, ?_, h5⟩
  unfold kindAt at h4 ⊢
  rw [getD_left (by omega)]
  exact h4
def Looked (ls : List PLet) (c : List (Txt × Nat)) (ks : List Nat) (l : List PNode) (n : Nat) : Except Nat Nat → Prop
  | .ok k => k ≠ 0 ∧ ∃ ks', ks'.length = n ∧ lookGo ls ks none l = (ks ++ ks', none) ∧ (ks ++ ks').getD (ks.length + n - 1) 0 = k
  | .error p => ∃ ks', ks'.length = n ∧ lookGo ls ks none l = (ks ++ ks', some p)
theorem look_tree (ls : List PLet) (c : List (Txt × Nat)) (t : Tr) (h : t.wf) : ∀ ks, (∀ x ∈ t.toks, mayT x.text = true) → (∀ x ∈ t.toks, nameT x.text = true → Scoped ls ks c x.text) → Looked ls c ks (t.flat ks.length) t.num (kindT c t) := by
  refine Tr.ind (P := fun t => ∀ ks, (∀ x ∈ t.toks, mayT x.text = true) → (∀ x ∈ t.toks, nameT x.text = true → Scoped ls ks c x.text) → Looked ls c ks (t.flat ks.length) t.num (kindT c t)) t h ?_ ?_ ?_ ?_
  · intro a ha ks hm hn
    rw [kindT_leaf, Tr.flat_leaf, Tr.num_leaf]
    have hma := hm a (by simp [Tr.toks_leaf])
    have hs := (Tr.wf_leaf ha).1
    cases hna : nameT a.text with
    | true =>
      obtain ⟨p, g1, g2, g3, g4, g5⟩ := hn a (by simp [Tr.toks_leaf]) hna
      have hk : kindP a.text = 2 := (kindOf _ hma).kname.2 hna
      have hv : nodeK ls ks ⟨a, 0, 0, 0⟩ = knownT c a.text := by simp only [nodeK, hk]; simp [g1, g4]
      simp only [if_true, Looked]
      refine ⟨g5, [knownT c a.text], rfl, ?_, getD_last _ _ _ (by omega)⟩
      simp [lookGo, hv, failK, g5]
    | false =>
      obtain ⟨g1, g2, g3⟩ := kind_single hma hs hna
      have hv : nodeK ls ks ⟨a, 0, 0, 0⟩ = leafKindT a.text := by simp only [nodeK, g2]; simp [g1]
      simp only [Looked, Bool.false_eq_true, if_false]
      refine ⟨g3, [leafKindT a.text], rfl, ?_, getD_last _ _ _ (by omega)⟩
      simp [lookGo, hv, failK, g3]
  · intro op e hw ih ks hm hn
    have hu := (Tr.wf_un hw).1
    have hpos := e.num_pos (Tr.wf_un hw).2.2
    have hmo := hm op (by simp [Tr.toks_un])
    have ih' := ih ks (fun x hx => hm x (by simp [Tr.toks_un, hx])) (fun x hx => hn x (by simp [Tr.toks_un, hx]))
    rw [kindT_un, Tr.flat_un, Tr.num_un]
    cases hk : kindT c e with
    | error p =>
      rw [hk] at ih'
      obtain ⟨ks', g1, g2⟩ := ih'
      refine ⟨ks' ++ [nodeK ls (ks ++ ks') ⟨op, 1, ks.length + e.num - 1, 0⟩], by simp [g1], ?_⟩
      rw [lookGo_append, g2]
      simp [lookGo, failK]
    | ok k =>
      rw [hk] at ih'
      obtain ⟨hk0, ks', g1, g2, g3⟩ := ih'
      have hv : nodeK ls (ks ++ ks') ⟨op, 1, ks.length + e.num - 1, 0⟩ = madeT op.text k k := by simp only [nodeK, if_true, g3]; exact kind_un hmo hu k
      have hlook : lookGo ls ks none (e.flat ks.length ++ [⟨op, 1, ks.length + e.num - 1, 0⟩]) = (ks ++ (ks' ++ [madeT op.text k k]), if madeT op.text k k = 0 then some op.at' else none) := by
        rw [lookGo_append, g2]
        simp only [lookGo, hv, failK]
        simp
      simp only
      by_cases hz : madeT op.text k k = 0
      · rw [if_pos hz] at hlook ⊢
        exact ⟨_, by simp [g1], hlook⟩
      · rw [if_neg hz] at hlook ⊢
        refine ⟨hz, _, by simp [g1], hlook, ?_⟩
        rw [← List.append_assoc]
        exact getD_last _ _ _ (by simp [g1])
  · intro op l r hw h1 h2 ks hm hn
    obtain ⟨w1, _, _, _, _, w6, w7⟩ := Tr.wf_bin hw
    have hpl := l.num_pos w6
    have hpr := r.num_pos w7
    have i1 := h1 ks (fun x hx => hm x (by simp [Tr.toks_bin, hx])) (fun x hx => hn x (by simp [Tr.toks_bin, hx]))
    rw [kindT_bin, Tr.flat_bin, Tr.num_bin]
    cases hk : kindT c l with
    | error p =>
      rw [hk] at i1
      obtain ⟨ks', g1, g2⟩ := i1
      obtain ⟨s1, ks2, s2, s3⟩ := lookGo_some ls (r.flat (ks.length + l.num) ++ [⟨op, 2, ks.length + l.num - 1, ks.length + l.num + r.num - 1⟩]) (ks ++ ks') p
      refine ⟨ks' ++ ks2, by simp [g1, s2, r.flat_len w7]; omega, ?_⟩
      rw [List.append_assoc, lookGo_append, g2]
      refine Prod.ext ?_ s1
      rw [s3]; simp
    | ok x =>
      rw [hk] at i1
      obtain ⟨hx0, ks', g1, g2, g3⟩ := i1
      have hlen : (ks ++ ks').length = ks.length + l.num := by simp [g1]
      have i2 := h2 (ks ++ ks') (fun x hx => hm x (by simp [Tr.toks_bin, hx])) (fun x hx hx2 => (hn x (by simp [Tr.toks_bin, hx]) hx2).more ks')
      rw [hlen] at i2
      simp only
      cases hk2 : kindT c r with
      | error p =>
        rw [hk2] at i2
        obtain ⟨ks2, q1, q2⟩ := i2
        refine ⟨ks' ++ ks2 ++ [nodeK ls (ks ++ ks' ++ ks2) ⟨op, 2, ks.length + l.num - 1, ks.length + l.num + r.num - 1⟩], by simp [g1, q1, Nat.add_assoc], ?_⟩
        rw [List.append_assoc, lookGo_append, g2]
        simp only
        rw [lookGo_append, q2]
        simp [lookGo, failK]
      | ok b =>
        rw [hk2] at i2
        obtain ⟨hb0, ks2, q1, q2, q3⟩ := i2
        rw [hlen] at q3
        have e1 : (ks ++ ks' ++ ks2).getD (ks.length + l.num - 1) 0 = x := by rw [getD_left (by rw [hlen]; omega)]; exact g3
        have hv : nodeK ls (ks ++ ks' ++ ks2) ⟨op, 2, ks.length + l.num - 1, ks.length + l.num + r.num - 1⟩ = madeT op.text x b := by
          have : ¬ (2 = 1) := by omega
          simp only [nodeK, if_true, if_neg this, e1, q3]
          exact kind_bin w1 x b
        have hlook : lookGo ls ks none (l.flat ks.length ++ r.flat (ks.length + l.num) ++ [⟨op, 2, ks.length + l.num - 1, ks.length + l.num + r.num - 1⟩]) = (ks ++ (ks' ++ ks2 ++ [madeT op.text x b]), if madeT op.text x b = 0 then some op.at' else none) := by
          rw [List.append_assoc, lookGo_append, g2]
          simp only
          rw [lookGo_append, q2]
          simp only [lookGo, hv, failK]
          simp
        simp only
        by_cases hz : madeT op.text x b = 0
        · rw [if_pos hz] at hlook ⊢
          exact ⟨_, by simp [g1, q1, Nat.add_assoc], hlook⟩
        · rw [if_neg hz] at hlook ⊢
          refine ⟨hz, _, by simp [g1, q1, Nat.add_assoc], hlook, ?_⟩
          rw [← List.append_assoc]
          exact getD_last _ _ _ (by simp [g1, q1])
  · intro o e cl hw ih ks hm hn
    rw [kindT_par, Tr.flat_par, Tr.num_par]
    exact ih ks (fun x hx => hm x (by simp [Tr.toks_par, hx])) (fun x hx => hn x (by simp [Tr.toks_par, hx]))
end Go.Proofs.YtjjbmbjmdgoofaaGreatDoor
