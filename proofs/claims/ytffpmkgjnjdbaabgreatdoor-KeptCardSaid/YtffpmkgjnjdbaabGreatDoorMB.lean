/-
  The program's kinds of tokens, by their bytes; what the program's reader may find: plain.
  What the program's reader may find at a place where an EXPR is wanted: a tree, or the first token that can't stand there: plain.
  What the program's reader may find at a place where a LET or a RULE is wanted: plain.
  What the program keeps of a policy that was read: its nodes, lets and rules; the names among them: plain.
  The names of a policy: the document's look and the program's agree: plain.
  The kinds of values of a policy: the document's look and the program's agree: plain.
  The kinds of values of a whole policy: plain.
  The parts of a policy: the document's count and the program's agree on what is too many: plain.
-/
import Derived.Test.YtffpmkgjnjdbaabGreatDoorMA
set_option linter.unusedVariables false
set_option linter.unusedSimpArgs false
namespace Go.Proofs.YtffpmkgjnjdbaabGreatDoor

def bindK (k : Nat) : Nat :=
  if k = 8 then 1 else if k = 7 then 2 else if k = 23 ∨ k = 24 ∨ k = 25 ∨ k = 26 then 3 else if k = 27 ∨ k = 28 then 4 else if k = 29 ∨ k = 30 ∨ k = 31 then 5 else 0
def singleK (k : Nat) : Bool := decide (k = 1) || decide (k = 2) || (decide (10 ≤ k) && decide (k ≤ 21))

theorem wordGo_cases (t : Txt) : ∀ (l : List Txt) (i : Nat), (l.contains t = false ∧ wordGo l i t = 2) ∨ ∃ k, ∃ h : k < l.length, t = l[k] ∧ wordGo l i t = 3 + (i + k)
  | [], i => Or.inl ⟨rfl, rfl⟩
  | x :: r, i => by
    by_cases h : x = t
    · subst h
      exact Or.inr ⟨0, by simp, rfl, by simp [wordGo]⟩
    · have hb : (x == t) = false := by simpa using h
      rcases wordGo_cases t r (i + 1) with ⟨h1, h2⟩ | ⟨k, hk, h1, h2⟩
      · refine Or.inl ⟨by rw [List.contains_cons, h1, Bool.or_false, beq_eq_false_iff_ne]; exact fun hh => h hh.symm, by simp [wordGo, hb, h2]⟩
      · exact Or.inr ⟨k + 1, by simp; omega, by simpa using h1, by simp only [wordGo, hb]; simp; rw [h2]; omega⟩
theorem signKind_cases (t : Txt) : ∀ (l : List Txt) (i : Nat), (l.contains t = false ∧ signKind l i t = 0) ∨ ∃ k, ∃ h : k < l.length, t = l[k] ∧ signKind l i t = 22 + (i + k)
  | [], i => Or.inl ⟨rfl, rfl⟩
  | x :: r, i => by
    by_cases h : x = t
    · subst h
      exact Or.inr ⟨0, by simp, rfl, by simp [signKind]⟩
    · have hb : (x == t) = false := by simpa using h
      rcases signKind_cases t r (i + 1) with ⟨h1, h2⟩ | ⟨k, hk, h1, h2⟩
      · refine Or.inl ⟨by rw [List.contains_cons, h1, Bool.or_false, beq_eq_false_iff_ne]; exact fun hh => h hh.symm, by simp [signKind, hb, h2]⟩
      · exact Or.inr ⟨k + 1, by simp; omega, by simpa using h1, by simp only [signKind, hb]; simp; rw [h2]; omega⟩
/-- What a token is, and its kind. -/
theorem kind_cases (t : Txt) (h : mayT t = true) :
    (isDig (headC t) = true ∧ kindP t = 1) ∨ (isLet (headC t) = true ∧ tWords.contains t = false ∧ kindP t = 2) ∨
    (∃ k, ∃ hk : k < 19, t = tWords[k]'hk ∧ kindP t = 3 + k) ∨ (∃ k, ∃ hk : k < 12, t = tSign[k]'hk ∧ kindP t = 22 + k) := by
  unfold kindP
  cases h1 : isDig (headC t) with
  | true => exact Or.inl ⟨rfl, by simp⟩
  | false =>
    cases h2 : isLet (headC t) with
    | true =>
      rcases wordGo_cases t tWords 0 with ⟨h3, h4⟩ | ⟨k, hk, h3, h4⟩
      · exact Or.inr (Or.inl ⟨rfl, h3, by simpa [wordKindT] using h4⟩)
      · exact Or.inr (Or.inr (Or.inl ⟨k, hk, h3, by simpa [wordKindT] using h4⟩))
    | false =>
      rcases signKind_cases t tSign 0 with ⟨h3, h4⟩ | ⟨k, hk, h3, h4⟩
      · unfold mayT at h
        simp only [h1, h2, signT, h3] at h
        cases h
      · exact Or.inr (Or.inr (Or.inr ⟨k, hk, h3, by simpa using h4⟩))
/-- What the kind tells of the bytes. -/
structure KindOf (t : Txt) : Prop where
  pos : kindP t ≠ 0
  klet : kindP t = 3 ↔ t = cLet
  kwhen : kindP t = 4 ↔ t = cWhen
  kscore : kindP t = 5 ↔ t = cScore
  krej : kindP t = 6 ↔ t = cReject
  kand : kindP t = 7 ↔ t = cAnd
  kor : kindP t = 8 ↔ t = cOr
  knot : kindP t = 9 ↔ t = cNot
  ksemi : kindP t = 22 ↔ t = cSemi
  keq : kindP t = 23 ↔ t = cEq
  kminus : kindP t = 28 ↔ t = cMinus
  kopen : kindP t = 32 ↔ t = cOpen
  kclose : kindP t = 33 ↔ t = cClose
  kname : kindP t = 2 ↔ nameT t = true
  single : singleK (kindP t) = singleT t
  binds : bindK (kindP t) = bindsT t
  joint : jointT t = decide (0 < bindK (kindP t))
  le : kindP t ≤ 33
theorem ne_head {t u : Txt} (h : headC t ≠ headC u) : t ≠ u := fun e => h (by rw [e])
theorem words_sub (t : Txt) (h : tWords.contains t = false) : leafT t = false ∧ ownT t = false := by
  simp only [tWords, List.contains_cons, List.contains_nil, Bool.or_false, Bool.or_eq_false_iff] at h
  obtain ⟨h1, h2, h3, h4, h5, h6, h7, h8, h9, h10, h11, h12, h13, h14, h15, h16, h17, h18, h19⟩ := h
  constructor
  · simp only [leafT, tLeaf, List.contains_cons, List.contains_nil, Bool.or_false, Bool.or_eq_false_iff]
    exact ⟨h8, h9, h10, h11, h12, h13, h14, h15, h16, h17, h18, h19⟩
  · simp only [ownT, tOwn, List.contains_cons, List.contains_nil, Bool.or_false, Bool.or_eq_false_iff]
    exact ⟨h1, h2, h3, h4, h5, h6, h7⟩
theorem kindOf (t : Txt) (h : mayT t = true) : KindOf t := by
  rcases kind_cases t h with ⟨h1, h2⟩ | ⟨h1, h2, h3⟩ | ⟨k, hk, rfl, h2⟩ | ⟨k, hk, rfl, h2⟩
  · have hn : ∀ u : Txt, isDig (headC u) = false → t ≠ u := fun u hu e => by rw [e, hu] at h1; cases h1
    have hb : bindsT t = 0 := by
      have : jointT t = false := by
        unfold jointT
        simp only [tJoint, List.contains_cons, List.contains_nil, Bool.or_false, Bool.or_eq_false_iff, beq_eq_false_iff_ne]
        refine ⟨?_, ?_, ?_, ?_, ?_, ?_, ?_, ?_, ?_, ?_, ?_⟩ <;> exact hn _ (by decide)
      have := joint_binds t
      cases hz : bindsT t with
      | zero => rfl
      | succ m => exact absurd (this.2 (by omega)) (by simp [*])
    have hj : jointT t = false := by cases e : jointT t with | false => rfl | true => have := (joint_binds t).1 e; omega
    have hl : isLet (headC t) = false := by
      unfold isLet isDig at *
      simp only [Bool.and_eq_true, decide_eq_true_eq, Bool.and_eq_false_iff, decide_eq_false_iff_not] at *
      left
      intro h5
      exact absurd (UInt8.le_trans h5 h1.2) (by decide)
    have hnm : nameT t = false := by simp [nameT, hl]
    have hsg : singleT t = true := by simp [singleT, h1]
    refine ⟨?_, ?_, ?_, ?_, ?_, ?_, ?_, ?_, ?_, ?_, ?_, ?_, ?_, ?_, ?_, ?_, ?_, ?_⟩ <;> rw [h2]
    · decide
    iterate 12 exact ⟨fun h => absurd h (by decide), fun h => absurd h (hn _ (by decide))⟩
    · rw [hnm]; simp
    · rw [hsg]; rfl
    · rw [hb]; rfl
    · rw [hj]; rfl
    · decide
  · have hw := words_sub t h2
    have hd : isDig (headC t) = false := by
      unfold isLet isDig at *
      simp only [Bool.and_eq_true, decide_eq_true_eq, Bool.and_eq_false_iff, decide_eq_false_iff_not] at *
      right
      intro h5
      exact absurd (UInt8.le_trans h1.1 h5) (by decide)
    have hn : ∀ u : Txt, isLet (headC u) = false → t ≠ u := fun u hu e => by rw [e, hu] at h1; cases h1
    have hn2 : ∀ u : Txt, ownT u = true → t ≠ u := fun u hu e => by rw [e, hu] at hw; cases hw.2
    have hj : jointT t = false := by
      unfold jointT
      simp only [tJoint, List.contains_cons, List.contains_nil, Bool.or_false, Bool.or_eq_false_iff, beq_eq_false_iff_ne]
      refine ⟨hn2 _ (by decide), hn2 _ (by decide), ?_, ?_, ?_, ?_, ?_, ?_, ?_, ?_, ?_⟩ <;> exact hn _ (by decide)
    have hb : bindsT t = 0 := by
      have := joint_binds t
      cases hz : bindsT t with
      | zero => rfl
      | succ m => exact absurd (this.2 (by omega)) (by simp [*])
    have hnm : nameT t = true := by simp [nameT, h1, hw.1, hw.2]
    have hsg : singleT t = true := by simp [singleT, hnm]
    refine ⟨?_, ?_, ?_, ?_, ?_, ?_, ?_, ?_, ?_, ?_, ?_, ?_, ?_, ?_, ?_, ?_, ?_, ?_⟩ <;> rw [h3]
    · decide
    iterate 7 exact ⟨fun h => absurd h (by decide), fun h => absurd h (hn2 _ (by decide))⟩
    iterate 5 exact ⟨fun h => absurd h (by decide), fun h => absurd h (hn _ (by decide))⟩
    · rw [hnm]; simp
    · rw [hsg]; rfl
    · rw [hb]; rfl
    · rw [hj]; rfl
    · decide
  · have : ∀ u ∈ tWords, KindOf u := by
      intro u hu
      simp only [tWords, List.mem_cons, List.not_mem_nil, or_false] at hu
      rcases hu with rfl | rfl | rfl | rfl | rfl | rfl | rfl | rfl | rfl | rfl | rfl | rfl | rfl | rfl | rfl | rfl | rfl | rfl | rfl
      all_goals (clear h2 h; refine ⟨?_, ?_, ?_, ?_, ?_, ?_, ?_, ?_, ?_, ?_, ?_, ?_, ?_, ?_, ?_, ?_, ?_, ?_⟩ <;> decide)
    exact this _ (List.getElem_mem _)
  · have : ∀ u ∈ tSign, KindOf u := by
      intro u hu
      simp only [tSign, List.mem_cons, List.not_mem_nil, or_false] at hu
      rcases hu with rfl | rfl | rfl | rfl | rfl | rfl | rfl | rfl | rfl | rfl | rfl | rfl
      all_goals (clear h2 h; refine ⟨?_, ?_, ?_, ?_, ?_, ?_, ?_, ?_, ?_, ?_, ?_, ?_, ?_, ?_, ?_, ?_, ?_, ?_⟩ <;> decide)
    exact this _ (List.getElem_mem _)
end Go.Proofs.YtffpmkgjnjdbaabGreatDoor

set_option linter.unusedVariables false
set_option linter.unusedSimpArgs false
namespace Go.Proofs.YtffpmkgjnjdbaabGreatDoor
open Go.Deep

/-- A node as the program keeps it. -/
structure PNode where
  tok : RTok
  ops : Nat
  left : Nat
  right : Nat
def numB : BT (RTok × RTok) → Nat
  | .nil => 0
  | .node 0 _ a _ _ => 1
  | .node 1 _ a e _ => numB e + 1
  | .node 2 _ a l r => numB l + numB r + 1
  | .node _ _ a e _ => numB e
def flatB : Nat → BT (RTok × RTok) → List PNode
  | _, .nil => []
  | _, .node 0 _ a _ _ => [⟨a.1, 0, 0, 0⟩]
  | b, .node 1 _ a e _ => flatB b e ++ [⟨a.1, 1, b + numB e - 1, 0⟩]
  | b, .node 2 _ a l r => flatB b l ++ flatB (b + numB l) r ++ [⟨a.1, 2, b + numB l - 1, b + numB l + numB r - 1⟩]
  | b, .node _ _ a e _ => flatB b e
def Tr.num (t : Tr) : Nat := numB t
def Tr.flat (b : Nat) (t : Tr) : List PNode := flatB b t
theorem Tr.num_leaf (t : RTok) : (Tr.leaf t).num = 1 := rfl
theorem Tr.num_un (op : RTok) (e : Tr) : (Tr.un op e).num = e.num + 1 := rfl
theorem Tr.num_bin (op : RTok) (l r : Tr) : (Tr.bin op l r).num = l.num + r.num + 1 := rfl
theorem Tr.num_par (o : RTok) (e : Tr) (c : RTok) : (Tr.par o e c).num = e.num := rfl
theorem Tr.flat_leaf (b : Nat) (t : RTok) : (Tr.leaf t).flat b = [⟨t, 0, 0, 0⟩] := rfl
theorem Tr.flat_un (b : Nat) (op : RTok) (e : Tr) : (Tr.un op e).flat b = e.flat b ++ [⟨op, 1, b + e.num - 1, 0⟩] := rfl
theorem Tr.flat_bin (b : Nat) (op : RTok) (l r : Tr) : (Tr.bin op l r).flat b = l.flat b ++ r.flat (b + l.num) ++ [⟨op, 2, b + l.num - 1, b + l.num + r.num - 1⟩] := rfl
theorem Tr.flat_par (b : Nat) (o : RTok) (e : Tr) (c : RTok) : (Tr.par o e c).flat b = e.flat b := rfl
theorem Tr.num_pos (t : Tr) (h : t.wf) : 1 ≤ t.num := by
  refine Tr.ind (P := fun t => 1 ≤ t.num) t h ?_ ?_ ?_ ?_
  · intro t _; rw [Tr.num_leaf]; omega
  · intro op e _ _; rw [Tr.num_un]; omega
  · intro op l r _ _ _; rw [Tr.num_bin]; omega
  · intro o e c _ he; rw [Tr.num_par]; exact he
theorem Tr.num_le (t : Tr) (h : t.wf) : t.num ≤ t.toks.length := by
  refine Tr.ind (P := fun t => t.num ≤ t.toks.length) t h ?_ ?_ ?_ ?_
  · intro t _; rw [Tr.num_leaf, Tr.toks_leaf]; simp
  · intro op e _ he; rw [Tr.num_un, Tr.toks_un]; simp; omega
  · intro op l r _ h1 h2; rw [Tr.num_bin, Tr.toks_bin]; simp; omega
  · intro o e c _ he; rw [Tr.num_par, Tr.toks_par]; simp; omega
theorem Tr.flat_len (t : Tr) (h : t.wf) : ∀ b, (t.flat b).length = t.num := by
  refine Tr.ind (P := fun t => ∀ b, (t.flat b).length = t.num) t h ?_ ?_ ?_ ?_
  · intro t _ b; rfl
  · intro op e _ he b; rw [Tr.flat_un, Tr.num_un, List.length_append, he]; rfl
  · intro op l r _ h1 h2 b; rw [Tr.flat_bin, Tr.num_bin, List.length_append, List.length_append, h1, h2]; rfl
  · intro o e c _ he b; rw [Tr.flat_par, Tr.num_par, he]

theorem goS_append : ∀ (a b : List RTok) (p : Spot), goS p (a ++ b) = match goS p a with | .ok q => goS q b | .error e => .error e
  | [], b, p => rfl
  | t :: r, b, p => by
    simp only [List.cons_append, goS]
    split
    · exact goS_append r b _
    · rfl
theorem goS_ok {a b : List RTok} {p q : Spot} (h : goS p a = .ok q) : goS p (a ++ b) = goS q b := by rw [goS_append, h]
theorem goS_cons {t : RTok} {r : List RTok} {p q : Spot} (h : stepS p t.text = (q, true)) : goS p (t :: r) = goS q r := by simp only [goS, h, if_true]

/-- The first k tokens can stand there; the next can't, and nothing ends there. -/
structure BadS (p : Spot) (l : List RTok) (k : Nat) : Prop where
  le : k ≤ l.length
  ex : ∃ q, goS p (l.take k) = .ok q ∧ (l.length ≤ k → q.next ≠ 6) ∧ ∀ h : k < l.length, (stepS q l[k].text).2 = false
theorem BadS.here2 {p : Spot} {l : List RTok} (hp : l = [] → p.next ≠ 6) (h : ∀ a r, l = a :: r → (stepS p a.text).2 = false) : BadS p l 0 := by
  refine ⟨Nat.zero_le _, p, rfl, fun hl => hp (List.eq_nil_of_length_eq_zero (by omega)), fun hl => ?_⟩
  cases l with
  | nil => cases hl
  | cons a r => exact h a r rfl
theorem BadS.here {p : Spot} {l : List RTok} (hp : p.next ≠ 6) (h : ∀ a r, l = a :: r → (stepS p a.text).2 = false) : BadS p l 0 := BadS.here2 (fun _ => hp) h
theorem BadS.behind {p q : Spot} {a b : List RTok} {k : Nat} (h : goS p a = .ok q) (hb : BadS q b k) : BadS p (a ++ b) (a.length + k) := by
  obtain ⟨h1, q', h2, h3, h4⟩ := hb
  refine ⟨by simp; omega, q', ?_, fun hh => h3 (by simp at hh; omega), fun hl => ?_⟩
  · rw [List.take_length_add_append, goS_ok h]; exact h2
  · rw [List.getElem_append_right (by omega)]
    have := h4 (by simp at hl; omega)
    simpa using this
theorem BadS.one {p q : Spot} {t : RTok} {b : List RTok} {k : Nat} (h : stepS p t.text = (q, true)) (hb : BadS q b k) : BadS p (t :: b) (k + 1) := by
  have := BadS.behind (a := [t]) (p := p) (q := q) (by rw [goS_cons h]; rfl) hb
  rw [show k + 1 = [t].length + k by simp; omega]
  exact this

/-- An OPERAND, or an EXPR whose operators bind so much at least, is found, with that behind it. -/
structure GotO (d : Nat) (l : List RTok) (t : Tr) (rest : List RTok) : Prop where
  eq : l = t.toks ++ rest
  wf : t.wf
  go : ∀ x, goS ⟨3, x, d⟩ t.toks = .ok ⟨4, x, d⟩
def stops (least : Nat) (rest : List RTok) : Prop := ∀ a r, rest = a :: r → bindsT a.text < least ∨ bindsT a.text = 0
/-- None is found: the place of the first token that can't stand there. -/
def BadV (d : Nat) (l : List RTok) (k : Nat) : Prop := ∀ x, BadS ⟨3, x, d⟩ l k

theorem value_leaf {a : RTok} (hm : mayT a.text = true) (hs : singleT a.text = true) (x d : Nat) : stepS ⟨3, x, d⟩ a.text = (⟨4, x, d⟩, true) := by
  have K := kindOf _ hm
  have h1 : singleK (kindP a.text) = true := by rw [K.single]; exact hs
  have n1 : a.text ≠ cMinus := fun e => by rw [K.kminus.2 e] at h1; cases h1
  have n2 : a.text ≠ cNot := fun e => by rw [K.knot.2 e] at h1; cases h1
  have n3 : a.text ≠ cOpen := fun e => by rw [K.kopen.2 e] at h1; cases h1
  unfold singleT at hs
  simp [stepS, valueS, n1, n2, n3, hs]
theorem leaf_wf {a : RTok} (hm : mayT a.text = true) (hs : singleT a.text = true) : (Tr.leaf a).wf := by
  have K := kindOf _ hm
  have h1 : singleK (kindP a.text) = true := by rw [K.single]; exact hs
  have n1 : a.text ≠ cMinus := fun e => by rw [K.kminus.2 e] at h1; cases h1
  have n2 : a.text ≠ cNot := fun e => by rw [K.knot.2 e] at h1; cases h1
  have n3 : a.text ≠ cOpen := fun e => by rw [K.kopen.2 e] at h1; cases h1
  have n4 : a.text ≠ cClose := fun e => by rw [K.kclose.2 e] at h1; cases h1
  refine ⟨⟨rfl, rfl, rfl, rfl⟩, hs, n3, n4, by simp [unT, n1, n2], ?_⟩
  rw [← K.binds]
  unfold singleK at h1
  simp only [Bool.or_eq_true, Bool.and_eq_true, decide_eq_true_eq] at h1
  unfold bindK
  split; omega
  split; omega
  split; omega
  split; omega
  split; omega
  rfl
theorem GotO.leaf {a : RTok} {r : List RTok} (hm : mayT a.text = true) (hs : singleT a.text = true) (d : Nat) : GotO d (a :: r) (Tr.leaf a) r :=
  ⟨rfl, leaf_wf hm hs, fun x => by rw [Tr.toks_leaf, goS_cons (value_leaf hm hs x d)]; rfl⟩
theorem value_un {a : RTok} (hu : unT a.text = true) (x d : Nat) : stepS ⟨3, x, d⟩ a.text = (⟨3, x, d⟩, true) := by
  unfold unT at hu
  simp only [stepS, valueS, hu, if_true]
  rfl
theorem GotO.un {op : RTok} {r rest : List RTok} {d : Nat} {t : Tr} (hu : unT op.text = true) (h : GotO d r t rest) (hl : t.level = 6) : GotO d (op :: r) (Tr.un op t) rest :=
  ⟨by rw [h.eq]; rfl, ⟨⟨rfl, rfl, rfl⟩, hu, hl, h.wf⟩, fun x => by rw [Tr.toks_un, goS_cons (value_un hu x d)]; exact h.go x⟩
theorem BadV.un {op : RTok} {r : List RTok} {d k : Nat} (hu : unT op.text = true) (h : BadV d r k) : BadV d (op :: r) (k + 1) := fun x => BadS.one (value_un hu x d) (h x)
theorem value_open {a : RTok} (ho : a.text = cOpen) (x d : Nat) (hd : d < 8) : stepS ⟨3, x, d⟩ a.text = (⟨3, x, d + 1⟩, true) := by
  have : d + 1 ≤ 8 := hd
  simp [stepS, valueS, ho, cOpen, cMinus, cNot, this]
theorem after_close {a : RTok} (hc : a.text = cClose) (x d : Nat) : stepS ⟨4, x, d + 1⟩ a.text = (⟨4, x, d⟩, true) := by
  simp [stepS, afterS, hc, show jointT cClose = false by decide]
theorem GotO.par {o c : RTok} {r rest : List RTok} {d : Nat} {t : Tr} (ho : o.text = cOpen) (hc : c.text = cClose) (hd : d < 8) (h : GotO (d + 1) r t (c :: rest)) : GotO d (o :: r) (Tr.par o t c) rest :=
  ⟨by rw [h.eq, Tr.toks_par]; simp, ⟨⟨rfl, rfl⟩, ho, hc, h.wf⟩, fun x => by rw [Tr.toks_par, goS_cons (value_open ho x d hd), goS_ok (h.go x), goS_cons (after_close hc x d)]; rfl⟩
theorem BadV.par {o : RTok} {r : List RTok} {d k : Nat} (ho : o.text = cOpen) (hd : d < 8) (h : BadV (d + 1) r k) : BadV d (o :: r) (k + 1) := fun x => BadS.one (value_open ho x d hd) (h x)
theorem BadV.close {o : RTok} {r rest : List RTok} {d : Nat} {t : Tr} (ho : o.text = cOpen) (hd : d < 8) (h : GotO (d + 1) r t rest) (hs : stops 1 rest) (hc : ∀ a r', rest = a :: r' → a.text ≠ cClose) : BadV d (o :: r) (t.toks.length + 1) := by
  intro x
  refine BadS.one (value_open ho x d hd) ?_
  rw [h.eq]
  have := BadS.behind (h.go x) (BadS.here (p := ⟨4, x, d + 1⟩) (l := rest) (by simp) fun a r' e => ?_)
  · exact this
  · have h1 := hs a r' e
    have h2 : jointT a.text = false := by
      cases hj : jointT a.text with
      | false => rfl
      | true => have := (joint_binds _).1 hj; omega
    simp [stepS, afterS, h2]
    exact hc a r' e
theorem BadV.none {l : List RTok} {d : Nat} (h : ∀ a r, l = a :: r → mayT a.text = true ∧ singleT a.text = false ∧ unT a.text = false ∧ (a.text = cOpen → 8 ≤ d)) : BadV d l 0 := by
  intro x
  refine BadS.here (by simp) fun a r e => ?_
  obtain ⟨h0, h1, h2, h3⟩ := h a r e
  unfold singleT at h1
  unfold unT at h2
  by_cases ho : a.text = cOpen
  · have := h3 ho
    simp [stepS, valueS, ho, cOpen, cMinus, cNot]
    omega
  · simp at h1 h2
    simp [stepS, valueS, h1, h2, ho]
theorem after_joint {a : RTok} (hj : 0 < bindsT a.text) (x d : Nat) : stepS ⟨4, x, d⟩ a.text = (⟨3, x, d⟩, true) := by
  simp [stepS, afterS, (joint_binds a.text).2 hj]
/-- The right operand of an operator can't stand there. -/
theorem BadV.right {l r : List RTok} {op : RTok} {d k : Nat} {t : Tr} (h : GotO d l t (op :: r)) (hj : 0 < bindsT op.text) (hb : BadV d r k) : BadV d l (t.toks.length + (k + 1)) := by
  intro x
  rw [h.eq]
  exact BadS.behind (h.go x) (BadS.one (after_joint hj x d) (hb x))
theorem GotO.bin {l r rest : List RTok} {op : RTok} {d : Nat} {t u : Tr} (hm : mayT op.text = true) (h : GotO d l t (op :: r)) (hj : 0 < bindsT op.text) (hl : bindsT op.text ≤ t.level) (g : GotO d r u rest) (hr : bindsT op.text < u.level) : GotO d l (Tr.bin op t u) rest := by
  have K := kindOf _ hm
  have n3 : op.text ≠ cOpen := fun e => by rw [e] at hj; revert hj; decide
  have n4 : op.text ≠ cClose := fun e => by rw [e] at hj; revert hj; decide
  refine ⟨by rw [h.eq, g.eq, Tr.toks_bin]; simp, ⟨⟨rfl, rfl⟩, hj, n3, n4, hl, hr, h.wf, g.wf⟩, fun x => ?_⟩
  rw [Tr.toks_bin, goS_ok (h.go x), goS_cons (after_joint hj x d)]
  exact g.go x
end Go.Proofs.YtffpmkgjnjdbaabGreatDoor

set_option linter.unusedVariables false
set_option linter.unusedSimpArgs false
namespace Go.Proofs.YtffpmkgjnjdbaabGreatDoor
open Go.Deep

theorem GotO.expr {d x : Nat} {l rest : List RTok} {t : Tr} (h : GotO d l t rest) : goS ⟨3, x, d⟩ t.toks = .ok ⟨4, x, d⟩ := h.go x
theorem no_joint {a : RTok} {rest r : List RTok} (hs : stops 1 rest) (e : rest = a :: r) : jointT a.text = false := by
  have h1 := hs a r e
  cases hj : jointT a.text with
  | false => rfl
  | true => have := (joint_binds _).1 hj; omega

/-- A place where a RULE may stand. -/
def RuleAt (p : Spot) : Prop := (p.next = 0 ∨ p.next = 6) ∧ p.opn = 0
theorem rule_step {p : Spot} (hp : RuleAt p) {t : Txt} (h : p.next = 0 → t ≠ cLet) : stepS p t = ruleS p t true := by
  obtain ⟨h1 | h1, h2⟩ := hp
  · have := h h1
    simp [stepS, h1, this]
  · simp [stepS, h1]

/-- A LET, up to its EXPR. -/
theorem let_one {t : Txt} (h : t = cLet) : stepS ⟨0, 0, 0⟩ t = (⟨1, 0, 0⟩, true) := by subst h; rfl
theorem let_two {t : Txt} (h : nameT t = true) : stepS ⟨1, 0, 0⟩ t = (⟨2, 0, 0⟩, true) := by simp [stepS, h]
theorem let_two_bad {t : Txt} (h : nameT t = false) : (stepS ⟨1, 0, 0⟩ t).2 = false := by simp [stepS, h]
theorem let_three {t : Txt} (h : t = cEq) : stepS ⟨2, 0, 0⟩ t = (⟨3, 0, 0⟩, true) := by subst h; rfl
theorem let_three_bad {t : Txt} (h : t ≠ cEq) : (stepS ⟨2, 0, 0⟩ t).2 = false := by simp [stepS, h]
theorem let_end {t : Txt} (h : t = cSemi) : stepS ⟨4, 0, 0⟩ t = (⟨0, 0, 0⟩, true) := by subst h; rfl
theorem let_end_bad {t : Txt} (hj : jointT t = false) (h : t ≠ cSemi) : (stepS ⟨4, 0, 0⟩ t).2 = false := by simp [stepS, afterS, hj, h]
theorem score_end {t : Txt} (h : t = cSemi) : stepS ⟨4, 2, 0⟩ t = (⟨6, 2, 0⟩, true) := by subst h; rfl
theorem score_end_bad {t : Txt} (hj : jointT t = false) (h : t ≠ cSemi) : (stepS ⟨4, 2, 0⟩ t).2 = false := by simp [stepS, afterS, hj, h]
theorem rej_end {x : Nat} {t : Txt} (h : t = cSemi) : stepS ⟨5, x, 0⟩ t = (⟨6, x, 0⟩, true) := by subst h; rfl
theorem rej_end_bad {x : Nat} {t : Txt} (h : t ≠ cSemi) : (stepS ⟨5, x, 0⟩ t).2 = false := by simp [stepS, h]
theorem when_rule {t : Txt} (hj : jointT t = false) : stepS ⟨4, 1, 0⟩ t = ruleS ⟨4, 1, 0⟩ t false := by simp [stepS, afterS, hj]

structure GotS (p : Spot) (l : List RTok) (s : RSt) (rest : List RTok) (q : Spot) : Prop where
  eq : l = s.toks ++ rest
  wf : s.wf
  go : goS p s.toks = .ok q
theorem GotS.bad {p q : Spot} {l rest : List RTok} {s : RSt} {k : Nat} (h : GotS p l s rest q) (hb : BadS q rest k) : BadS p l (s.toks.length + k) := by rw [h.eq]; exact hb.behind h.go

theorem let_got {kw name eq semi : RTok} {r rest : List RTok} {e : Tr} (h1 : kw.text = cLet) (h2 : nameT name.text = true) (h3 : eq.text = cEq) (g : GotO 0 r e (semi :: rest)) (h4 : semi.text = cSemi) :
    GotS ⟨0, 0, 0⟩ (kw :: name :: eq :: r) (.letS kw name eq e semi) rest ⟨0, 0, 0⟩ := by
  refine ⟨?_, ⟨h1, h2, h3, g.wf, h4⟩, ?_⟩
  · rw [g.eq, RSt.toks, RSt.body_let]; simp [RSt.letS, RSt.semi]
  · simp only [RSt.toks, RSt.body_let, List.cons_append]
    rw [goS_cons (let_one h1), goS_cons (let_two h2), goS_cons (let_three h3), goS_ok (g.go 0)]
    exact goS_cons (let_end h4)
theorem let_bad_name {kw : RTok} {l : List RTok} (h1 : kw.text = cLet) (h : ∀ a r, l = a :: r → nameT a.text = false) : BadS ⟨0, 0, 0⟩ (kw :: l) 1 :=
  BadS.one (let_one h1) (BadS.here (by simp) fun a r e => let_two_bad (h a r e))
theorem let_bad_eq {kw name : RTok} {l : List RTok} (h1 : kw.text = cLet) (h2 : nameT name.text = true) (h : ∀ a r, l = a :: r → a.text ≠ cEq) : BadS ⟨0, 0, 0⟩ (kw :: name :: l) 2 :=
  BadS.one (let_one h1) (BadS.one (let_two h2) (BadS.here (by simp) fun a r e => let_three_bad (h a r e)))
theorem let_bad_expr {kw name eq : RTok} {l : List RTok} {k : Nat} (h1 : kw.text = cLet) (h2 : nameT name.text = true) (h3 : eq.text = cEq) (h : BadV 0 l k) : BadS ⟨0, 0, 0⟩ (kw :: name :: eq :: l) (k + 3) :=
  BadS.one (let_one h1) (BadS.one (let_two h2) (BadS.one (let_three h3) (h 0)))
theorem let_bad_end {kw name eq : RTok} {l rest : List RTok} {e : Tr} (h1 : kw.text = cLet) (h2 : nameT name.text = true) (h3 : eq.text = cEq) (g : GotO 0 l e rest) (hs : stops 1 rest) (h : ∀ a r, rest = a :: r → a.text ≠ cSemi) : BadS ⟨0, 0, 0⟩ (kw :: name :: eq :: l) (e.toks.length + 3) := by
  refine BadS.one (let_one h1) (BadS.one (let_two h2) (BadS.one (let_three h3) ?_))
  rw [g.eq]
  exact (BadS.here (p := ⟨4, 0, 0⟩) (by simp) fun a r e => let_end_bad (no_joint hs e) (h a r e)).behind (g.go 0)

/-- An ACT and its end, at a place where a RULE or (behind its `when`) an ACT may stand. -/
def ActAt (p : Spot) : Prop := p.next ≠ 6 → True
theorem ruleS_score {p : Spot} {t : Txt} {b : Bool} (h : t = cScore) (ho : p.opn = 0) : ruleS p t b = (⟨3, 2, 0⟩, true) := by
  subst h; simp [ruleS, ho, cScore, cWhen]
theorem ruleS_rej {p : Spot} {t : Txt} {b : Bool} (h : t = cReject) (ho : p.opn = 0) : ruleS p t b = (⟨5, p.expr, 0⟩, true) := by
  subst h; simp [ruleS, ho, cScore, cWhen, cReject]
theorem ruleS_when {p : Spot} {t : Txt} (h : t = cWhen) (ho : p.opn = 0) : ruleS p t true = (⟨3, 1, 0⟩, true) := by
  subst h; simp [ruleS, ho]
theorem ruleS_bad {p : Spot} {t : Txt} {b : Bool} (h1 : b = true → t ≠ cWhen) (h2 : t ≠ cScore) (h3 : t ≠ cReject) : (ruleS p t b).2 = false := by
  cases b with
  | false => simp [ruleS, h2, h3]
  | true => simp [ruleS, h2, h3, h1 rfl]
/-- The spot at which an ACT stands: what is asked of the next token there. -/
structure Acts (p : Spot) (b : Bool) (l : List RTok) : Prop where
  opn : p.opn = 0
  nx : ∀ a r, l = a :: r → stepS p a.text = ruleS p a.text b
theorem acts_score {p : Spot} {b : Bool} {act semi : RTok} {r rest : List RTok} {e : Tr} (A : Acts p b (act :: r)) (h1 : act.text = cScore) (g : GotO 0 r e (semi :: rest)) (h2 : semi.text = cSemi) : goS p ((act :: e.toks) ++ [semi]) = .ok ⟨6, 2, 0⟩ := by
  simp only [List.cons_append]
  rw [goS_cons ((A.nx act r rfl).trans (ruleS_score h1 A.opn)), goS_ok (g.go 2)]
  exact goS_cons (score_end h2)
theorem acts_rej {p : Spot} {b : Bool} {act semi : RTok} {rest : List RTok} (A : Acts p b (act :: semi :: rest)) (h1 : act.text = cReject) (h2 : semi.text = cSemi) : goS p [act, semi] = .ok ⟨6, p.expr, 0⟩ := by
  rw [goS_cons ((A.nx act _ rfl).trans (ruleS_rej h1 A.opn))]
  exact goS_cons (rej_end h2)
theorem acts_bad_score {p : Spot} {b : Bool} {act : RTok} {r : List RTok} {k : Nat} (A : Acts p b (act :: r)) (h1 : act.text = cScore) (g : BadV 0 r k) : BadS p (act :: r) (k + 1) :=
  BadS.one ((A.nx act r rfl).trans (ruleS_score h1 A.opn)) (g 2)
theorem acts_bad_send {p : Spot} {b : Bool} {act : RTok} {r rest : List RTok} {e : Tr} (A : Acts p b (act :: r)) (h1 : act.text = cScore) (g : GotO 0 r e rest) (hs : stops 1 rest) (h : ∀ a r, rest = a :: r → a.text ≠ cSemi) : BadS p (act :: r) (e.toks.length + 1) := by
  refine BadS.one ((A.nx act r rfl).trans (ruleS_score h1 A.opn)) ?_
  rw [g.eq]
  exact (BadS.here (p := ⟨4, 2, 0⟩) (by simp) fun a r e => score_end_bad (no_joint hs e) (h a r e)).behind (g.go 2)
theorem acts_bad_rend {p : Spot} {b : Bool} {act : RTok} {r : List RTok} (A : Acts p b (act :: r)) (h1 : act.text = cReject) (h : ∀ a r', r = a :: r' → a.text ≠ cSemi) : BadS p (act :: r) 1 :=
  BadS.one ((A.nx act r rfl).trans (ruleS_rej h1 A.opn)) (BadS.here (by simp) fun a r' e => rej_end_bad (h a r' e))
theorem acts_bad_here {p : Spot} {b : Bool} {l : List RTok} (A : Acts p b l) (hp : l = [] → p.next ≠ 6) (h : ∀ a r, l = a :: r → (b = true → a.text ≠ cWhen) ∧ a.text ≠ cScore ∧ a.text ≠ cReject) : BadS p l 0 :=
  BadS.here2 hp fun a r e => by rw [A.nx a r e]; exact ruleS_bad (h a r e).1 (h a r e).2.1 (h a r e).2.2
theorem acts_first {p : Spot} {l : List RTok} (hp : RuleAt p) (h : p.next = 0 → ∀ a r, l = a :: r → a.text ≠ cLet) : Acts p true l :=
  ⟨hp.2, fun a r e => rule_step hp fun h0 => h h0 a r e⟩
theorem acts_when {rest : List RTok} (hs : stops 1 rest) : Acts ⟨4, 1, 0⟩ false rest := ⟨rfl, fun a r e => when_rule (no_joint hs e)⟩
/-- The `when` of a RULE. -/
theorem when_go {p : Spot} {w : RTok} {r rest : List RTok} {e : Tr} (A : Acts p true (w :: r)) (h : w.text = cWhen) (g : GotO 0 r e rest) : goS p (w :: e.toks) = .ok ⟨4, 1, 0⟩ := by
  rw [goS_cons ((A.nx w r rfl).trans (ruleS_when h A.opn))]; exact g.go 1
theorem when_bad {p : Spot} {w : RTok} {r : List RTok} {k : Nat} (A : Acts p true (w :: r)) (h : w.text = cWhen) (g : BadV 0 r k) : BadS p (w :: r) (k + 1) :=
  BadS.one ((A.nx w r rfl).trans (ruleS_when h A.opn)) (g 1)
end Go.Proofs.YtffpmkgjnjdbaabGreatDoor

set_option linter.unusedVariables false
set_option linter.unusedSimpArgs false
namespace Go.Proofs.YtffpmkgjnjdbaabGreatDoor
open Go.Deep

structure PExp where
  place : Nat
  fr : Nat
  behind : Nat
structure PLet where
  name : RTok
  val : PExp
structure PRule where
  hw : Bool
  when : PExp
  hs : Bool
  score : PExp
def noExp : PExp := ⟨0, 0, 0⟩
def layE (b : Nat) (t : Tr) : PExp := ⟨firstAt t, b, b + t.num⟩
def optNum : Option Tr → Nat
  | none => 0
  | some t => t.num
def optNodes (b : Nat) : Option Tr → List PNode
  | none => []
  | some t => t.flat b
def optE (b : Nat) : Option Tr → PExp
  | none => noExp
  | some t => layE b t
def RSt.num (s : RSt) : Nat := Sum.elim (fun d : LetD => d.e.num) (fun d : RuleD => optNum (d.wh.map Prod.snd) + optNum d.sc) s
def RSt.nodes (b : Nat) (s : RSt) : List PNode := Sum.elim (fun d : LetD => d.e.flat b) (fun d : RuleD => optNodes b (d.wh.map Prod.snd) ++ optNodes (b + optNum (d.wh.map Prod.snd)) d.sc) s
def RSt.lets (b : Nat) (s : RSt) : List PLet := Sum.elim (fun d : LetD => [⟨d.name, layE b d.e⟩]) (fun _ : RuleD => []) s
def RSt.rules (b : Nat) (s : RSt) : List PRule := Sum.elim (fun _ : LetD => []) (fun d : RuleD => [⟨d.wh.isSome, optE b (d.wh.map Prod.snd), d.sc.isSome, optE (b + optNum (d.wh.map Prod.snd)) d.sc⟩]) s
def numS : List RSt → Nat
  | [] => 0
  | s :: r => s.num + numS r
def nodesS : Nat → List RSt → List PNode
  | _, [] => []
  | b, s :: r => s.nodes b ++ nodesS (b + s.num) r
def letsS : Nat → List RSt → List PLet
  | _, [] => []
  | b, s :: r => s.lets b ++ letsS (b + s.num) r
def rulesS : Nat → List RSt → List PRule
  | _, [] => []
  | b, s :: r => s.rules b ++ rulesS (b + s.num) r
theorem numS_append : ∀ (a b : List RSt), numS (a ++ b) = numS a + numS b
  | [], b => by simp [numS]
  | s :: r, b => by simp only [List.cons_append, numS, numS_append r b]; omega
theorem nodesS_append : ∀ (a b : List RSt) (k : Nat), nodesS k (a ++ b) = nodesS k a ++ nodesS (k + numS a) b
  | [], b, k => by simp [nodesS, numS]
  | s :: r, b, k => by simp only [List.cons_append, nodesS, numS, nodesS_append r b, List.append_assoc, Nat.add_assoc]
theorem letsS_append : ∀ (a b : List RSt) (k : Nat), letsS k (a ++ b) = letsS k a ++ letsS (k + numS a) b
  | [], b, k => by simp [letsS, numS]
  | s :: r, b, k => by simp only [List.cons_append, letsS, numS, letsS_append r b, List.append_assoc, Nat.add_assoc]
theorem rulesS_append : ∀ (a b : List RSt) (k : Nat), rulesS k (a ++ b) = rulesS k a ++ rulesS (k + numS a) b
  | [], b, k => by simp [rulesS, numS]
  | s :: r, b, k => by simp only [List.cons_append, rulesS, numS, rulesS_append r b, List.append_assoc, Nat.add_assoc]
theorem RSt.num_let (kw name eq : RTok) (e : Tr) (semi : RTok) : (RSt.letS kw name eq e semi).num = e.num := rfl
theorem RSt.num_rule (wh : Option (RTok × Tr)) (act : RTok) (sc : Option Tr) (semi : RTok) : (RSt.rule wh act sc semi).num = optNum (wh.map Prod.snd) + optNum sc := rfl
theorem RSt.nodes_let (b : Nat) (kw name eq : RTok) (e : Tr) (semi : RTok) : (RSt.letS kw name eq e semi).nodes b = e.flat b := rfl
theorem RSt.nodes_rule (b : Nat) (wh : Option (RTok × Tr)) (act : RTok) (sc : Option Tr) (semi : RTok) : (RSt.rule wh act sc semi).nodes b = optNodes b (wh.map Prod.snd) ++ optNodes (b + optNum (wh.map Prod.snd)) sc := rfl
theorem RSt.lets_let (b : Nat) (kw name eq : RTok) (e : Tr) (semi : RTok) : (RSt.letS kw name eq e semi).lets b = [⟨name, layE b e⟩] := rfl
theorem RSt.lets_rule (b : Nat) (wh : Option (RTok × Tr)) (act : RTok) (sc : Option Tr) (semi : RTok) : (RSt.rule wh act sc semi).lets b = [] := rfl
theorem RSt.rules_let (b : Nat) (kw name eq : RTok) (e : Tr) (semi : RTok) : (RSt.letS kw name eq e semi).rules b = [] := rfl
theorem RSt.rules_rule (b : Nat) (wh : Option (RTok × Tr)) (act : RTok) (sc : Option Tr) (semi : RTok) : (RSt.rule wh act sc semi).rules b = [⟨wh.isSome, optE b (wh.map Prod.snd), sc.isSome, optE (b + optNum (wh.map Prod.snd)) sc⟩] := rfl
theorem optNodes_len (o : Option Tr) (h : ∀ e, o = some e → e.wf) (b : Nat) : (optNodes b o).length = optNum o := by
  cases o with
  | none => rfl
  | some e => exact e.flat_len (h e rfl) b
theorem RSt.nodes_len (s : RSt) (h : s.wf) (b : Nat) : (s.nodes b).length = s.num := by
  rcases s.cases with ⟨kw, name, eq, e, semi, rfl⟩ | ⟨wh, act, sc, semi, rfl⟩
  · exact e.flat_len h.2.2.2.1 b
  · rw [RSt.nodes_rule, RSt.num_rule, List.length_append, optNodes_len _ _, optNodes_len _ _]
    · exact fun e he => h.2.2.1 e he
    · intro e he
      cases wh with
      | none => cases he
      | some p => cases he; exact (h.1 p.1 p.2 rfl).2
theorem nodesS_len : ∀ (l : List RSt), (∀ s ∈ l, s.wf) → ∀ b, (nodesS b l).length = numS l
  | [], _, _ => rfl
  | s :: r, h, b => by
    simp only [nodesS, numS, List.length_append, s.nodes_len (h s (by simp)) b, nodesS_len r (fun x hx => h x (by simp [hx]))]

/-- The nodes of an EXPR. -/
def segE (N : List PNode) (e : PExp) : List PNode := (N.drop e.fr).take (e.behind - e.fr)
theorem seg_noExp (N : List PNode) : segE N noExp = [] := by simp [segE, noExp]
theorem seg_lay {N pre post : List PNode} {t : Tr} (ht : t.wf) (hN : N = pre ++ t.flat pre.length ++ post) : segE N (layE pre.length t) = t.flat pre.length := by
  subst hN
  simp only [segE, layE]
  rw [List.append_assoc, List.drop_left', Nat.add_sub_cancel_left]
  · rw [List.take_left' (t.flat_len ht _)]
  · rfl

def letIx (ls : List PLet) (t : Txt) : Nat := ls.findIdx (fun p => p.name.text == t)
theorem letIx_le (ls : List PLet) (t : Txt) : letIx ls t ≤ ls.length := List.findIdx_le_length
/-- Is the name among the first ones? -/
theorem letIx_lt (ls : List PLet) (t : Txt) (i : Nat) (hi : i ≤ ls.length) : ((ls.take i).map (fun p => p.name.text)).contains t = decide (letIx ls t < i) := by
  rw [Bool.eq_iff_iff]
  simp only [List.contains_iff_mem, List.mem_map, decide_eq_true_eq]
  constructor
  · rintro ⟨p, hp, rfl⟩
    obtain ⟨k, hk, rfl⟩ := List.getElem_of_mem hp
    simp only [List.length_take] at hk
    rw [List.getElem_take]
    have : letIx ls ls[k].name.text ≤ k := by
      unfold letIx
      apply Nat.le_of_not_lt
      intro hlt
      have := List.not_of_lt_findIdx hlt
      simp at this
    omega
  · intro h
    have hl : letIx ls t < ls.length := by omega
    refine ⟨ls[letIx ls t], ?_, ?_⟩
    · rw [List.mem_take_iff_getElem]
      exact ⟨letIx ls t, by omega, rfl⟩
    · have := List.findIdx_getElem (p := fun p : PLet => p.name.text == t) (xs := ls) (w := hl)
      exact beq_iff_eq.1 this
/-- The place of the first name among nodes that no earlier let has. -/
def namesE (ls : List PLet) (ahead : Nat) : List PNode → Option Nat
  | [] => none
  | n :: r => if nameT n.tok.text && decide (ahead ≤ letIx ls n.tok.text) then some n.tok.at' else namesE ls ahead r
def namesToks (ls : List PLet) (ahead : Nat) : List RTok → Option Nat
  | [] => none
  | n :: r => if nameT n.text && decide (ahead ≤ letIx ls n.text) then some n.at' else namesToks ls ahead r
theorem namesE_append (ls : List PLet) (i : Nat) : ∀ (a b : List PNode), namesE ls i (a ++ b) = match namesE ls i a with | some p => some p | none => namesE ls i b
  | [], b => rfl
  | n :: r, b => by
    simp only [List.cons_append, namesE]
    split
    · rfl
    · exact namesE_append ls i r b
theorem namesToks_append (ls : List PLet) (i : Nat) : ∀ (a b : List RTok), namesToks ls i (a ++ b) = match namesToks ls i a with | some p => some p | none => namesToks ls i b
  | [], b => rfl
  | n :: r, b => by
    simp only [List.cons_append, namesToks]
    split
    · rfl
    · exact namesToks_append ls i r b
theorem un_no_name {t : Txt} (h : unT t = true) : nameT t = false := by
  simp only [unT, Bool.or_eq_true, beq_iff_eq] at h
  rcases h with rfl | rfl <;> decide
theorem bin_no_name {t : Txt} (h : 0 < bindsT t) : nameT t = false := by
  have hj := (joint_binds t).2 h
  simp only [jointT, tJoint, List.contains_cons, List.contains_nil, Bool.or_false, Bool.or_eq_true, beq_iff_eq] at hj
  rcases hj with rfl | rfl | rfl | rfl | rfl | rfl | rfl | rfl | rfl | rfl | rfl <;> decide
/-- In a tree names stand in the order of the text. -/
theorem names_tree (ls : List PLet) (i : Nat) (t : Tr) (h : t.wf) : ∀ b, namesE ls i (t.flat b) = namesToks ls i t.toks := by
  refine Tr.ind (P := fun t => ∀ b, namesE ls i (t.flat b) = namesToks ls i t.toks) t h ?_ ?_ ?_ ?_
  · intro a ha b
    rw [Tr.flat_leaf, Tr.toks_leaf]; rfl
  · intro op e hw ih b
    rw [Tr.flat_un, Tr.toks_un, namesE_append, ih]
    have := un_no_name (Tr.wf_un hw).1
    simp only [namesToks, namesE, this]
    cases namesToks ls i e.toks <;> simp
  · intro op l r hw h1 h2 b
    rw [Tr.flat_bin, Tr.toks_bin, namesE_append, namesE_append, h1, h2, namesToks_append]
    have := bin_no_name (Tr.wf_bin hw).1
    simp only [namesToks, namesE, this]
    cases namesToks ls i l.toks <;> cases namesToks ls i r.toks <;> simp
  · intro o e c hw ih b
    have ho : nameT o.text = false := by rw [(Tr.wf_par hw).1]; decide
    have hc : nameT c.text = false := by rw [(Tr.wf_par hw).2.1]; decide
    rw [Tr.flat_par, Tr.toks_par, ih]
    simp only [namesToks, ho, Bool.false_and, Bool.false_eq_true, if_false]
    rw [namesToks_append]
    cases namesToks ls i e.toks <;> simp [namesToks, hc]
/-- The document's look at the names of an EXPR. -/
theorem names_expr (ls : List PLet) (i : Nat) (hi : i ≤ ls.length) (late : Txt) : ∀ (l : List RTok), (∀ x ∈ l, plainE x.text) → ∀ (prev : Txt), prev ≠ cLet → ∀ (rest : List RTok),
    ∃ pv, pv ≠ cLet ∧ namesGo ((ls.take i).map (fun p => p.name.text)) late prev (l ++ rest) = match namesToks ls i l with | some p => some p | none => namesGo ((ls.take i).map (fun p => p.name.text)) late pv rest
  | [], _, prev, hp, rest => ⟨prev, hp, rfl⟩
  | t :: r, hl, prev, hp, rest => by
    obtain ⟨h1, h2, _⟩ := hl t (by simp)
    have hs : (t.text == cSemi) = false := by simpa using h1
    obtain ⟨e1, e2⟩ := thereN_no (there := (ls.take i).map (fun p => p.name.text)) (late := late) (t := t.text) (.inl hs)
    have hpb : (prev == cLet) = false := by simpa using hp
    obtain ⟨pv, g1, g3⟩ := names_expr ls i hi late r (fun x hx => hl x (by simp [hx])) t.text h2 rest
    refine ⟨pv, g1, ?_⟩
    simp only [List.cons_append, namesGo, namesToks, e1, e2, hpb]
    cases hn : nameT t.text
    · simpa using g3
    · rw [letIx_lt ls t.text i hi]
      by_cases hx : letIx ls t.text < i
      · have : ¬ i ≤ letIx ls t.text := by omega
        simpa [hx, this] using g3
      · have : i ≤ letIx ls t.text := by omega
        simp [hx, this]
end Go.Proofs.YtffpmkgjnjdbaabGreatDoor

set_option linter.unusedVariables false
set_option linter.unusedSimpArgs false
namespace Go.Proofs.YtffpmkgjnjdbaabGreatDoor
open Go.Deep

def pNamesL (N : List PNode) (ls : List PLet) : Nat → List PLet → Option Nat
  | _, [] => none
  | i, p :: r => if letIx ls p.name.text < i then some p.name.at' else match namesE ls i (segE N p.val) with
    | some q => some q
    | none => pNamesL N ls (i + 1) r
def pNamesR (N : List PNode) (ls : List PLet) : List PRule → Option Nat
  | [] => none
  | p :: r => match namesE ls ls.length (segE N p.when) with
    | some q => some q
    | none => match namesE ls ls.length (segE N p.score) with
      | some q => some q
      | none => pNamesR N ls r
def pNames (N : List PNode) (ls : List PLet) (rs : List PRule) : Option Nat := match pNamesL N ls 0 ls with
  | some p => some p
  | none => pNamesR N ls rs

def isLetL' (L : List RSt) : Prop := ∀ s ∈ L, s.isLet = true
def isRuleL' (L : List RSt) : Prop := ∀ s ∈ L, s.isLet = false
theorem lets_len : ∀ (L : List RSt), isLetL' L → ∀ b, (letsS b L).length = L.length
  | [], _, _ => rfl
  | s :: r, h, b => by
    rcases s.cases with ⟨kw, name, eq, e, semi, rfl⟩ | ⟨wh, act, sc, semi, rfl⟩
    · simp only [letsS, RSt.lets_let, List.length_append, List.length_cons, List.length_nil, lets_len r (fun x hx => h x (by simp [hx]))]; omega
    · have := h _ List.mem_cons_self; cases this
theorem lets_none : ∀ (L : List RSt), isRuleL' L → ∀ b, letsS b L = []
  | [], _, _ => rfl
  | s :: r, h, b => by
    rcases s.cases with ⟨kw, name, eq, e, semi, rfl⟩ | ⟨wh, act, sc, semi, rfl⟩
    · have := h _ List.mem_cons_self; cases this
    · simp only [letsS, RSt.lets_rule, List.nil_append, lets_none r (fun x hx => h x (by simp [hx]))]
theorem rules_none : ∀ (L : List RSt), isLetL' L → ∀ b, rulesS b L = []
  | [], _, _ => rfl
  | s :: r, h, b => by
    rcases s.cases with ⟨kw, name, eq, e, semi, rfl⟩ | ⟨wh, act, sc, semi, rfl⟩
    · simp only [rulesS, RSt.rules_let, List.nil_append, rules_none r (fun x hx => h x (by simp [hx]))]
    · have := h _ List.mem_cons_self; cases this
theorem seg_opt {N pre post : List PNode} {o : Option Tr} (ho : ∀ e, o = some e → e.wf) (b : Nat) (hb : b = pre.length) (hN : N = pre ++ optNodes b o ++ post) : segE N (optE b o) = optNodes b o := by
  subst hb
  cases o with
  | none => exact seg_noExp N
  | some t => exact seg_lay (ho t rfl) hN
theorem names_opt (ls : List PLet) (i : Nat) (o : Option Tr) (ho : ∀ e, o = some e → e.wf) (b : Nat) : namesE ls i (optNodes b o) = namesToks ls i (optToks o) := by
  cases o with
  | none => rfl
  | some t => exact names_tree ls i t (ho t rfl) b
theorem opt_plain (o : Option Tr) (ho : ∀ e, o = some e → e.wf) : ∀ x ∈ optToks o, plainE x.text := by
  cases o with
  | none => intro x hx; cases hx
  | some t => exact t.plain (ho t rfl)
/-- A token that is no name and no semicolon changes nothing. -/
theorem names_skip {there : List Txt} {late prev : Txt} {t : RTok} {r : List RTok} (h1 : nameT t.text = false) (h2 : t.text ≠ cSemi) : namesGo there late prev (t :: r) = namesGo there late t.text r := by
  obtain ⟨e1, e2⟩ := thereN_no (there := there) (late := late) (t := t.text) (.inl (by simpa using h2))
  simp [namesGo, h1, e1, e2]
theorem names_skip0 {there : List Txt} {prev : Txt} {t : RTok} {r : List RTok} (h1 : nameT t.text = false) : namesGo there [] prev (t :: r) = namesGo there [] t.text r := by
  obtain ⟨e1, e2⟩ := thereN_no (there := there) (late := []) (t := t.text) (.inr rfl)
  simp [namesGo, h1, e1, e2]
theorem names_rules (N : List PNode) (ls : List PLet) : ∀ (R : List RSt), isRuleL' R → (∀ s ∈ R, s.wf) → ∀ (pre : List PNode) (prev : Txt), prev ≠ cLet → N = pre ++ nodesS pre.length R →
    namesGo (ls.map (fun p => p.name.text)) [] prev (toksL R) = pNamesR N ls (rulesS pre.length R)
  | [], _, _, _, _, _, _ => rfl
  | s :: r, hr, hw, pre, prev, hp, hN => by
    rcases s.cases with ⟨kw, name, eq, e, semi, rfl⟩ | ⟨wh, act, sc, semi, rfl⟩
    · have := hr _ List.mem_cons_self; cases this
    have hws := hw _ List.mem_cons_self
    obtain ⟨w1, w2, w3, w4⟩ := hws
    simp only at w1 w2 w3 w4
    have ho1 : ∀ e, wh.map Prod.snd = some e → e.wf := by
      intro e he
      cases wh with
      | none => cases he
      | some p => cases he; exact (w1 p.1 p.2 rfl).2
    have ho2 : ∀ e, sc = some e → e.wf := w3
    have hact : nameT act.text = false := by rw [w2]; split <;> decide
    have hact2 : act.text ≠ cLet := by rw [w2]; split <;> decide
    have hsem : nameT semi.text = false := by rw [w4]; decide
    have hsem2 : semi.text ≠ cLet := by rw [w4]; decide
    rw [rulesS, RSt.rules_rule, List.singleton_append, pNamesR]
    simp only
    have hN1 : N = pre ++ optNodes pre.length (wh.map Prod.snd) ++ (optNodes (pre.length + optNum (wh.map Prod.snd)) sc ++ nodesS (pre.length + (RSt.rule wh act sc semi).num) r) := by
      rw [hN, nodesS, RSt.nodes_rule]; simp [List.append_assoc]
    have hl1 : (pre ++ optNodes pre.length (wh.map Prod.snd)).length = pre.length + optNum (wh.map Prod.snd) := by rw [List.length_append, optNodes_len _ ho1]
    have hN2 : N = (pre ++ optNodes pre.length (wh.map Prod.snd)) ++ optNodes (pre.length + optNum (wh.map Prod.snd)) sc ++ nodesS (pre.length + (RSt.rule wh act sc semi).num) r := by
      rw [hN1]; simp [List.append_assoc]
    have hl2 : (pre ++ (RSt.rule wh act sc semi).nodes pre.length).length = pre.length + (RSt.rule wh act sc semi).num := by rw [List.length_append, RSt.nodes_len _ (hw _ List.mem_cons_self)]
    rw [seg_opt ho1 _ rfl hN1, seg_opt ho2 _ hl1.symm hN2, names_opt ls _ _ ho1, names_opt ls _ _ ho2]
    have ih := names_rules N ls r (fun x hx => hr x (by simp [hx])) (fun x hx => hw x (by simp [hx])) (pre ++ (RSt.rule wh act sc semi).nodes pre.length) semi.text hsem2 (by rw [hl2, hN, nodesS]; simp [List.append_assoc])
    rw [hl2] at ih
    rw [← ih, toksL_cons, RSt.toks, RSt.body_rule]
    have hT : (ls.map (fun p => p.name.text)) = ((ls.take ls.length).map (fun p => p.name.text)) := by rw [List.take_length]
    rw [hT]
    have step2 : ∀ prev' : Txt, prev' ≠ cLet → namesGo ((ls.take ls.length).map (fun p => p.name.text)) [] prev' (act :: (optToks sc ++ (semi :: toksL r))) = match namesToks ls ls.length (optToks sc) with
        | some q => some q
        | none => namesGo ((ls.take ls.length).map (fun p => p.name.text)) [] semi.text (toksL r) := by
      intro prev' hp'
      rw [names_skip0 hact]
      obtain ⟨pv, g1, g2⟩ := names_expr ls ls.length (Nat.le_refl _) [] (optToks sc) (opt_plain sc ho2) act.text hact2 (semi :: toksL r)
      rw [g2]
      cases namesToks ls ls.length (optToks sc) with
      | some q => rfl
      | none => simp only; rw [names_skip0 hsem]
    cases wh with
    | none =>
      have := step2 prev hp
      simpa [whToks, optToks, namesToks, RSt.semi, RSt.rule] using this
    | some p =>
      obtain ⟨k, e⟩ := p
      have hk : k.text = cWhen := (w1 k e rfl).1
      have hk1 : nameT k.text = false := by rw [hk]; decide
      have hk2 : k.text ≠ cLet := by rw [hk]; decide
      obtain ⟨pv, g1, g2⟩ := names_expr ls ls.length (Nat.le_refl _) [] e.toks (e.plain (ho1 e rfl)) k.text hk2 (act :: (optToks sc ++ (semi :: toksL r)))
      have e1 : whToks (some (k, e)) ++ act :: optToks sc ++ [(RSt.rule (some (k, e)) act sc semi).semi] ++ toksL r = k :: (e.toks ++ (act :: (optToks sc ++ (semi :: toksL r)))) := by simp [whToks, RSt.semi, RSt.rule]
      rw [e1, names_skip0 hk1, g2]
      simp only [Option.map_some, optToks]
      cases namesToks ls ls.length e.toks with
      | some q => rfl
      | none => exact step2 pv g1
theorem name_ne_nil {t : Txt} (h : nameT t = true) : (t == []) = false := by
  cases t with
  | nil => revert h; decide
  | cons a r => rfl
theorem names_lets (N : List PNode) (ls : List PLet) (R : List RSt) (hR : isRuleL' R) (hRw : ∀ s ∈ R, s.wf) : ∀ (B A : List RSt), isLetL' A → isLetL' B → (∀ s ∈ A, s.wf) → (∀ s ∈ B, s.wf) → ls = letsS 0 (A ++ B) → N = nodesS 0 (A ++ B ++ R) → ∀ prev : Txt, prev ≠ cLet →
    namesGo ((ls.take A.length).map (fun p => p.name.text)) [] prev (toksL (B ++ R)) = match pNamesL N ls A.length (letsS (numS A) B) with
      | some p => some p
      | none => pNamesR N ls (rulesS (numS (A ++ B)) R)
  | [], A, hA, _, hAw, _, hls, hN, prev, hp => by
    have hlen : ls.length = A.length := by rw [hls, List.append_nil, lets_len A hA]
    rw [← hlen, List.take_length, List.nil_append]
    simp only [letsS, pNamesL, List.append_nil]
    have hl : (nodesS 0 A).length = numS A := nodesS_len A hAw 0
    have := names_rules N ls R hR hRw (nodesS 0 A) prev hp (by rw [hN, List.append_nil, nodesS_append, hl, Nat.zero_add])
    rw [hl] at this
    exact this
  | s :: B, A, hA, hB, hAw, hBw, hls, hN, prev, hp => by
    rcases s.cases with ⟨kw, name, eq, e, semi, rfl⟩ | ⟨wh, act, sc, semi, rfl⟩
    rotate_left
    · have := hB _ List.mem_cons_self; cases this
    obtain ⟨w1, w2, w3, w4, w5⟩ := hBw _ List.mem_cons_self
    simp only at w1 w2 w3 w4 w5
    have hi : A.length + 1 ≤ ls.length := by rw [hls, letsS_append, List.length_append, lets_len A hA, lets_len _ hB]; simp
    have hAl : (letsS 0 A).length = A.length := lets_len A hA 0
    have hgi : ls[A.length]? = some ⟨name, layE (numS A) e⟩ := by
      rw [hls, letsS_append, List.getElem?_append_right (by omega), hAl, Nat.sub_self, letsS, RSt.lets_let]
      simp
    have htk : (ls.take (A.length + 1)).map (fun p => p.name.text) = (ls.take A.length).map (fun p => p.name.text) ++ [name.text] := by
      rw [List.take_add_one, hgi]; simp
    have kw1 : nameT kw.text = false := by rw [w1]; decide
    have kw2 : kw.text ≠ cSemi := by rw [w1]; decide
    have eq1 : nameT eq.text = false := by rw [w3]; decide
    have eq2 : eq.text ≠ cSemi := by rw [w3]; decide
    have eq3 : eq.text ≠ cLet := by rw [w3]; decide
    have sm1 : nameT semi.text = false := by rw [w5]; decide
    have sm2 : semi.text ≠ cLet := by rw [w5]; decide
    have hn0 : (nodesS 0 A).length = numS A := nodesS_len A hAw 0
    have hseg : segE N (layE (numS A) e) = e.flat (numS A) := by
      rw [← hn0]
      refine seg_lay (post := nodesS (numS A + e.num) (B ++ R)) w4 ?_
      rw [hN, List.append_assoc, nodesS_append, hn0, Nat.zero_add, List.cons_append, nodesS, RSt.nodes_let, RSt.num_let]; simp [List.append_assoc]
    have ih := names_lets N ls R hR hRw B (A ++ [.letS kw name eq e semi]) (by intro x hx; simp at hx; rcases hx with hx | rfl; exact hA x hx; rfl) (fun x hx => hB x (by simp [hx])) (by intro x hx; simp at hx; rcases hx with hx | rfl; exact hAw x hx; exact ⟨w1, w2, w3, w4, w5⟩) (fun x hx => hBw x (by simp [hx])) (by rw [hls]; simp) (by rw [hN]; simp) semi.text sm2
    rw [List.length_append, List.length_cons, List.length_nil, htk, numS_append] at ih
    have hnum : numS [RSt.letS kw name eq e semi] = e.num := by simp [numS, RSt.num_let]
    rw [hnum] at ih
    rw [letsS, RSt.lets_let, RSt.num_let, List.singleton_append, pNamesL]
    simp only
    rw [hseg, names_tree ls _ e w4]
    have e1 : toksL (RSt.letS kw name eq e semi :: B ++ R) = kw :: name :: eq :: (e.toks ++ (semi :: toksL (B ++ R))) := by
      rw [List.cons_append, toksL_cons, RSt.toks, RSt.body_let]; simp [RSt.semi, RSt.letS]
    rw [e1, names_skip kw1 kw2, namesGo]
    have hs2 : (name.text == cSemi) = false := name_not_semi w2
    obtain ⟨t1, t2⟩ := thereN_no (there := (ls.take A.length).map (fun p => p.name.text)) (late := []) (t := name.text) (.inl hs2)
    rw [if_pos w2, t1, t2, letIx_lt ls name.text A.length (by omega)]
    have kwb : (kw.text == cLet) = true := by rw [w1]; decide
    rw [kwb]
    by_cases hx : letIx ls name.text < A.length
    · simp [hx]
    · have hd : (decide (letIx ls name.text < A.length) == true) = false := by simp [hx]
      rw [hd, if_neg (by simp), if_pos rfl, if_neg hx, names_skip eq1 eq2]
      obtain ⟨pv, g1, g2⟩ := names_expr ls A.length (by omega) name.text e.toks (e.plain w4) eq.text eq3 (semi :: toksL (B ++ R))
      rw [g2]
      cases namesToks ls A.length e.toks with
      | some q => rfl
      | none =>
        simp only
        obtain ⟨u1, u2⟩ := thereN_semi (there := (ls.take A.length).map (fun p => p.name.text)) (late := name.text) (t := semi.text) (by rw [w5]; rfl) (name_ne_nil w2)
        rw [namesGo, if_neg (by simp [sm1]), u1, u2, ih]
        simp
theorem names_same (L R : List RSt) (hL : isLetL' L) (hR : isRuleL' R) (hw : ∀ s ∈ L ++ R, s.wf) :
    namesGo [] [] [] (toksL (L ++ R)) = pNames (nodesS 0 (L ++ R)) (letsS 0 (L ++ R)) (rulesS 0 (L ++ R)) := by
  have h1 : letsS 0 (L ++ R) = letsS 0 ([] ++ L) := by rw [letsS_append, lets_none R hR, List.append_nil, List.nil_append]
  have h2 : rulesS 0 (L ++ R) = rulesS (numS L) R := by rw [rulesS_append, rules_none L hL, List.nil_append, Nat.zero_add]
  have := names_lets (nodesS 0 (L ++ R)) (letsS 0 (L ++ R)) R hR (fun s hs => hw s (by simp [hs])) L [] (fun s hs => by cases hs) hL (fun s hs => by cases hs) (fun s hs => hw s (by simp [hs])) h1 rfl [] (by decide)
  simp only [List.length_nil, List.take_zero, List.map_nil] at this
  rw [this, pNames, h2]
  congr 1
  rw [h1]
  rfl
end Go.Proofs.YtffpmkgjnjdbaabGreatDoor

set_option linter.unusedVariables false
set_option linter.unusedSimpArgs false
namespace Go.Proofs.YtffpmkgjnjdbaabGreatDoor
open Go.Deep

def kindOne (k : Nat) : Nat :=
  if k = 1 ∨ k = 15 ∨ k = 16 ∨ k = 18 ∨ k = 19 ∨ k = 20 then 1
  else if k = 10 ∨ k = 11 then 2
  else if k = 12 ∨ k = 13 ∨ k = 14 ∨ k = 17 ∨ k = 21 then 3
  else 0
def kindUn (op a : Nat) : Nat := if op = 28 ∧ a = 1 then 1 else if op = 9 ∧ a = 2 then 2 else 0
def kindBin (op a b : Nat) : Nat :=
  if a ≠ b then 0
  else if op = 23 ∨ op = 24 then 2
  else if op = 25 ∨ op = 26 then (if a = 1 then 2 else 0)
  else if op = 7 ∨ op = 8 then (if a = 2 then 2 else 0)
  else if op = 27 ∨ op = 28 ∨ op = 29 ∨ op = 30 ∨ op = 31 then (if a = 1 then 1 else 0)
  else 0
def kindAt (ks : List Nat) (e : PExp) : Nat := ks.getD (e.behind - 1) 0
/-- The kind of a node, out of those ahead of it. -/
def nodeK (ls : List PLet) (ks : List Nat) (n : PNode) : Nat :=
  if n.ops = 1 then kindUn (kindP n.tok.text) (ks.getD n.left 0)
  else if n.ops = 2 then kindBin (kindP n.tok.text) (ks.getD n.left 0) (ks.getD n.right 0)
  else if kindP n.tok.text = 2 then (match ls[letIx ls n.tok.text]? with | some p => kindAt ks p.val | none => 0)
  else kindOne (kindP n.tok.text)
def failK (f : Option Nat) (bad : Bool) (p : Nat) : Option Nat := match f with
  | some q => some q
  | none => if bad then some p else none
def lookGo (ls : List PLet) : List Nat → Option Nat → List PNode → List Nat × Option Nat
  | ks, f, [] => (ks, f)
  | ks, f, n :: r => lookGo ls (ks ++ [nodeK ls ks n]) (failK f (nodeK ls ks n == 0) n.tok.at') r
theorem failK_some (q : Nat) (b : Bool) (p : Nat) : failK (some q) b p = some q := rfl
theorem lookGo_append (ls : List PLet) : ∀ (a b : List PNode) (ks : List Nat) (f : Option Nat), lookGo ls ks f (a ++ b) = lookGo ls (lookGo ls ks f a).1 (lookGo ls ks f a).2 b
  | [], b, ks, f => rfl
  | n :: r, b, ks, f => by simp only [List.cons_append, lookGo, lookGo_append ls r b]
theorem lookGo_some (ls : List PLet) : ∀ (l : List PNode) (ks : List Nat) (q : Nat), (lookGo ls ks (some q) l).2 = some q ∧ ∃ ks', ks'.length = l.length ∧ (lookGo ls ks (some q) l).1 = ks ++ ks'
  | [], ks, q => ⟨rfl, [], rfl, by simp [lookGo]⟩
  | n :: r, ks, q => by
    obtain ⟨h1, ks', h2, h3⟩ := lookGo_some ls r (ks ++ [nodeK ls ks n]) q
    refine ⟨h1, nodeK ls ks n :: ks', by simp [h2], ?_⟩
    simp only [lookGo, failK_some]; rw [h3]; simp
theorem getD_left {a b : List Nat} {i : Nat} (h : i < a.length) : (a ++ b).getD i 0 = a.getD i 0 := by
  simp only [List.getD_eq_getElem?_getD, List.getElem?_append_left h]
theorem getD_last (a : List Nat) (x : Nat) (i : Nat) (h : i = a.length) : (a ++ [x]).getD i 0 = x := by
  subst h; simp [List.getD_eq_getElem?_getD]
theorem kind_single {t : Txt} (hm : mayT t = true) (hs : singleT t = true) (hn : nameT t = false) : kindP t ≠ 2 ∧ kindOne (kindP t) = leafKindT t ∧ leafKindT t ≠ 0 := by
  have K := kindOf t hm
  have h2 : kindP t ≠ 2 := fun h => by rw [K.kname.1 h] at hn; cases hn
  refine ⟨h2, ?_⟩
  rcases kind_cases t hm with ⟨hd, hk⟩ | ⟨_, _, hk⟩ | ⟨k, hk, rfl, hk2⟩ | ⟨k, hk, rfl, hk2⟩
  · rw [hk]
    have hh : 48 ≤ headC t ∧ headC t ≤ 57 := by simpa [isDig] using hd
    have n1 : ∀ u : Txt, ¬ (48 ≤ headC u ∧ headC u ≤ 57) → t ≠ u := fun u hu e => hu (by rw [← e]; exact hh)
    have a1 : (t == cTrue) = false := by simpa using n1 cTrue (by decide)
    have a2 : (t == cFalse) = false := by simpa using n1 cFalse (by decide)
    have a3 : classT t = false := by
      simp only [classT, tClass, List.contains_cons, List.contains_nil, Bool.or_false, Bool.or_eq_false_iff, beq_eq_false_iff_ne]
      exact ⟨n1 _ (by decide), n1 _ (by decide), n1 _ (by decide), n1 _ (by decide), n1 _ (by decide)⟩
    simp [leafKindT, a1, a2, a3, kindOne]
  · exact absurd hk h2
  · have : ∀ k (hk : k < 19), singleT (tWords[k]'hk) = true → kindOne (3 + k) = leafKindT (tWords[k]'hk) ∧ leafKindT (tWords[k]'hk) ≠ 0 := by decide
    rw [hk2]
    exact this k hk hs
  · have : ∀ k (hk : k < 12), singleT (tSign[k]'hk) = false := by decide
    rw [this k hk] at hs
    cases hs
theorem kind_un {t : Txt} (hm : mayT t = true) (hu : unT t = true) (a : Nat) : kindUn (kindP t) a = madeT t a a := by
  simp only [unT, Bool.or_eq_true, beq_iff_eq] at hu
  rcases hu with rfl | rfl
  · rw [show kindP cMinus = 28 by decide]
    by_cases h : a = 1
    · subst h; decide
    · simp [kindUn, madeT, h, show (cMinus == cAnd) = false by decide, show (cMinus == cOr) = false by decide, show (cMinus == cNot) = false by decide, show (cMinus == cEq) = false by decide, show (cMinus == cNeq) = false by decide]
  · rw [show kindP cNot = 9 by decide]
    by_cases h : a = 2
    · subst h; decide
    · simp [kindUn, madeT, h]
theorem kind_bin {t : Txt} (hb : 0 < bindsT t) (a b : Nat) : kindBin (kindP t) a b = madeT t a b := by
  have hj := (joint_binds t).2 hb
  simp only [jointT, tJoint, List.contains_cons, List.contains_nil, Bool.or_false, Bool.or_eq_true, beq_iff_eq] at hj
  rcases hj with rfl | rfl | rfl | rfl | rfl | rfl | rfl | rfl | rfl | rfl | rfl
  all_goals
    simp only [kindBin, madeT, show kindP [111, 114] = 8 by decide, show kindP [97, 110, 100] = 7 by decide, show kindP [61] = 23 by decide, show kindP [33, 61] = 24 by decide, show kindP [60] = 25 by decide, show kindP [60, 61] = 26 by decide, show kindP [43] = 27 by decide, show kindP [45] = 28 by decide, show kindP [42] = 29 by decide, show kindP [47] = 30 by decide, show kindP [37] = 31 by decide]
    simp [cAnd, cOr, cNot, cEq, cNeq, cLess, cMost]
    repeat' split
    all_goals omega
/-- The scope of the document and the program's kinds of the lets agree. -/
def Scoped (ls : List PLet) (ks : List Nat) (c : List (Txt × Nat)) (x : Txt) : Prop := ∃ p, ls[letIx ls x]? = some p ∧ 1 ≤ p.val.behind ∧ p.val.behind ≤ ks.length ∧ kindAt ks p.val = knownT c x ∧ knownT c x ≠ 0
theorem Scoped.more {ls : List PLet} {ks : List Nat} {c : List (Txt × Nat)} {x : Txt} (h : Scoped ls ks c x) (ks' : List Nat) : Scoped ls (ks ++ ks') c x := by
  obtain ⟨p, h1, h2, h3, h4, h5⟩ := h
  refine ⟨p, h1, h2, by simp; omega, ?_, h5⟩
  unfold kindAt at h4 ⊢
  rw [getD_left (by omega)]
  exact h4
/-- A tree is looked at. -/
def Looked (ls : List PLet) (c : List (Txt × Nat)) (ks : List Nat) (l : List PNode) (n : Nat) : Except Nat Nat → Prop
  | .ok k => k ≠ 0 ∧ ∃ ks', ks'.length = n ∧ lookGo ls ks none l = (ks ++ ks', none) ∧ (ks ++ ks').getD (ks.length + n - 1) 0 = k
  | .error p => ∃ ks', ks'.length = n ∧ lookGo ls ks none l = (ks ++ ks', some p)
theorem look_tree (ls : List PLet) (c : List (Txt × Nat)) (t : Tr) (h : t.wf) : ∀ ks, (∀ x ∈ t.toks, mayT x.text = true) → (∀ x ∈ t.toks, nameT x.text = true → Scoped ls ks c x.text) → Looked ls c ks (t.flat ks.length) t.num (kindT c t) := by
  refine Tr.ind (P := fun t => ∀ ks, (∀ x ∈ t.toks, mayT x.text = true) → (∀ x ∈ t.toks, nameT x.text = true → Scoped ls ks c x.text) → Looked ls c ks (t.flat ks.length) t.num (kindT c t)) t h ?_ ?_ ?_ ?_
  · intro a ha ks hm hn
    rw [kindT_leaf, Tr.flat_leaf, Tr.num_leaf]
    have hma := hm a (by simp [Tr.toks_leaf])
    have hs := (Tr.wf_leaf ha).1
    cases hna : nameT a.text with
    | true =>
      obtain ⟨p, g1, g2, g3, g4, g5⟩ := hn a (by simp [Tr.toks_leaf]) hna
      have hk : kindP a.text = 2 := (kindOf _ hma).kname.2 hna
      have hv : nodeK ls ks ⟨a, 0, 0, 0⟩ = knownT c a.text := by simp only [nodeK, hk]; simp [g1, g4]
      simp only [if_true, Looked]
      refine ⟨g5, [knownT c a.text], rfl, ?_, getD_last _ _ _ (by omega)⟩
      simp [lookGo, hv, failK, g5]
    | false =>
      obtain ⟨g1, g2, g3⟩ := kind_single hma hs hna
      have hv : nodeK ls ks ⟨a, 0, 0, 0⟩ = leafKindT a.text := by simp only [nodeK, g2]; simp [g1]
      simp only [Looked, Bool.false_eq_true, if_false]
      refine ⟨g3, [leafKindT a.text], rfl, ?_, getD_last _ _ _ (by omega)⟩
      simp [lookGo, hv, failK, g3]
  · intro op e hw ih ks hm hn
    have hu := (Tr.wf_un hw).1
    have hpos := e.num_pos (Tr.wf_un hw).2.2
    have hmo := hm op (by simp [Tr.toks_un])
    have ih' := ih ks (fun x hx => hm x (by simp [Tr.toks_un, hx])) (fun x hx => hn x (by simp [Tr.toks_un, hx]))
    rw [kindT_un, Tr.flat_un, Tr.num_un]
    cases hk : kindT c e with
    | error p =>
      rw [hk] at ih'
      obtain ⟨ks', g1, g2⟩ := ih'
      refine ⟨ks' ++ [nodeK ls (ks ++ ks') ⟨op, 1, ks.length + e.num - 1, 0⟩], by simp [g1], ?_⟩
      rw [lookGo_append, g2]
      simp [lookGo, failK]
    | ok k =>
      rw [hk] at ih'
      obtain ⟨hk0, ks', g1, g2, g3⟩ := ih'
      have hv : nodeK ls (ks ++ ks') ⟨op, 1, ks.length + e.num - 1, 0⟩ = madeT op.text k k := by simp only [nodeK, if_true, g3]; exact kind_un hmo hu k
      have hlook : lookGo ls ks none (e.flat ks.length ++ [⟨op, 1, ks.length + e.num - 1, 0⟩]) = (ks ++ (ks' ++ [madeT op.text k k]), if madeT op.text k k = 0 then some op.at' else none) := by
        rw [lookGo_append, g2]
        simp only [lookGo, hv, failK]
        simp
      simp only
      by_cases hz : madeT op.text k k = 0
      · rw [if_pos hz] at hlook ⊢
        exact ⟨_, by simp [g1], hlook⟩
      · rw [if_neg hz] at hlook ⊢
        refine ⟨hz, _, by simp [g1], hlook, ?_⟩
        rw [← List.append_assoc]
        exact getD_last _ _ _ (by simp [g1])
  · intro op l r hw h1 h2 ks hm hn
    obtain ⟨w1, _, _, _, _, w6, w7⟩ := Tr.wf_bin hw
    have hpl := l.num_pos w6
    have hpr := r.num_pos w7
    have i1 := h1 ks (fun x hx => hm x (by simp [Tr.toks_bin, hx])) (fun x hx => hn x (by simp [Tr.toks_bin, hx]))
    rw [kindT_bin, Tr.flat_bin, Tr.num_bin]
    cases hk : kindT c l with
    | error p =>
      rw [hk] at i1
      obtain ⟨ks', g1, g2⟩ := i1
      obtain ⟨s1, ks2, s2, s3⟩ := lookGo_some ls (r.flat (ks.length + l.num) ++ [⟨op, 2, ks.length + l.num - 1, ks.length + l.num + r.num - 1⟩]) (ks ++ ks') p
      refine ⟨ks' ++ ks2, by simp [g1, s2, r.flat_len w7]; omega, ?_⟩
      rw [List.append_assoc, lookGo_append, g2]
      refine Prod.ext ?_ s1
      rw [s3]; simp
    | ok x =>
      rw [hk] at i1
      obtain ⟨hx0, ks', g1, g2, g3⟩ := i1
      have hlen : (ks ++ ks').length = ks.length + l.num := by simp [g1]
      have i2 := h2 (ks ++ ks') (fun x hx => hm x (by simp [Tr.toks_bin, hx])) (fun x hx hx2 => (hn x (by simp [Tr.toks_bin, hx]) hx2).more ks')
      rw [hlen] at i2
      simp only
      cases hk2 : kindT c r with
      | error p =>
        rw [hk2] at i2
        obtain ⟨ks2, q1, q2⟩ := i2
        refine ⟨ks' ++ ks2 ++ [nodeK ls (ks ++ ks' ++ ks2) ⟨op, 2, ks.length + l.num - 1, ks.length + l.num + r.num - 1⟩], by simp [g1, q1, Nat.add_assoc], ?_⟩
        rw [List.append_assoc, lookGo_append, g2]
        simp only
        rw [lookGo_append, q2]
        simp [lookGo, failK]
      | ok b =>
        rw [hk2] at i2
        obtain ⟨hb0, ks2, q1, q2, q3⟩ := i2
        rw [hlen] at q3
        have e1 : (ks ++ ks' ++ ks2).getD (ks.length + l.num - 1) 0 = x := by rw [getD_left (by rw [hlen]; omega)]; exact g3
        have hv : nodeK ls (ks ++ ks' ++ ks2) ⟨op, 2, ks.length + l.num - 1, ks.length + l.num + r.num - 1⟩ = madeT op.text x b := by
          have : ¬ (2 = 1) := by omega
          simp only [nodeK, if_true, if_neg this, e1, q3]
          exact kind_bin w1 x b
        have hlook : lookGo ls ks none (l.flat ks.length ++ r.flat (ks.length + l.num) ++ [⟨op, 2, ks.length + l.num - 1, ks.length + l.num + r.num - 1⟩]) = (ks ++ (ks' ++ ks2 ++ [madeT op.text x b]), if madeT op.text x b = 0 then some op.at' else none) := by
          rw [List.append_assoc, lookGo_append, g2]
          simp only
          rw [lookGo_append, q2]
          simp only [lookGo, hv, failK]
          simp
        simp only
        by_cases hz : madeT op.text x b = 0
        · rw [if_pos hz] at hlook ⊢
          exact ⟨_, by simp [g1, q1, Nat.add_assoc], hlook⟩
        · rw [if_neg hz] at hlook ⊢
          refine ⟨hz, _, by simp [g1, q1, Nat.add_assoc], hlook, ?_⟩
          rw [← List.append_assoc]
          exact getD_last _ _ _ (by simp [g1, q1])
  · intro o e cl hw ih ks hm hn
    rw [kindT_par, Tr.flat_par, Tr.num_par]
    exact ih ks (fun x hx => hm x (by simp [Tr.toks_par, hx])) (fun x hx => hn x (by simp [Tr.toks_par, hx]))
end Go.Proofs.YtffpmkgjnjdbaabGreatDoor

set_option linter.unusedVariables false
set_option linter.unusedSimpArgs false
namespace Go.Proofs.YtffpmkgjnjdbaabGreatDoor
open Go.Deep

abbrev KSt := List Nat × Option Nat
def lookFor (ls : List PLet) (N : List PNode) (want : Nat) (e : PExp) (st : KSt) : KSt :=
  ((lookGo ls st.1 st.2 (segE N e)).1, failK (lookGo ls st.1 st.2 (segE N e)).2 (decide (kindAt (lookGo ls st.1 st.2 (segE N e)).1 e ≠ want)) e.place)
def kindsL (ls : List PLet) (N : List PNode) : KSt → List PLet → KSt
  | st, [] => st
  | st, p :: r => kindsL ls N (lookGo ls st.1 st.2 (segE N p.val)) r
def whenK (ls : List PLet) (N : List PNode) (p : PRule) (st : KSt) : KSt := if p.hw then lookFor ls N 2 p.when st else st
def scoreK (ls : List PLet) (N : List PNode) (p : PRule) (st : KSt) : KSt := if p.hs then lookFor ls N 1 p.score st else st
def kindsR (ls : List PLet) (N : List PNode) : KSt → List PRule → KSt
  | st, [] => st
  | st, p :: r => kindsR ls N (scoreK ls N p (whenK ls N p st)) r
def pKinds (N : List PNode) (ls : List PLet) (rs : List PRule) : Option Nat := (kindsR ls N (kindsL ls N ([], none) ls) rs).2
theorem lookFor_some (ls : List PLet) (N : List PNode) (want : Nat) (e : PExp) (ks : List Nat) (q : Nat) : (lookFor ls N want e (ks, some q)).2 = some q := by
  simp only [lookFor, (lookGo_some ls (segE N e) ks q).1, failK_some]
theorem some_pair {st : KSt} {q : Nat} (h : st.2 = some q) : st = (st.1, some q) := by rw [← h]
theorem whenK_some (ls : List PLet) (N : List PNode) (p : PRule) (st : KSt) (q : Nat) (h : st.2 = some q) : (whenK ls N p st).2 = some q := by
  unfold whenK; split
  · rw [some_pair h]; exact lookFor_some ..
  · exact h
theorem scoreK_some (ls : List PLet) (N : List PNode) (p : PRule) (st : KSt) (q : Nat) (h : st.2 = some q) : (scoreK ls N p st).2 = some q := by
  unfold scoreK; split
  · rw [some_pair h]; exact lookFor_some ..
  · exact h
theorem kindsR_some (ls : List PLet) (N : List PNode) (q : Nat) : ∀ (l : List PRule) (st : KSt), st.2 = some q → (kindsR ls N st l).2 = some q
  | [], st, h => h
  | p :: r, st, h => kindsR_some ls N q r _ (scoreK_some ls N p _ q (whenK_some ls N p st q h))
theorem kindsL_some (ls : List PLet) (N : List PNode) (q : Nat) : ∀ (l : List PLet) (st : KSt), st.2 = some q → (kindsL ls N st l).2 = some q
  | [], st, h => h
  | p :: r, st, h => kindsL_some ls N q r _ (by rw [h]; exact (lookGo_some ls _ _ q).1)
theorem knownT_at (x : Txt) (k : Nat) : ∀ (c : List (Txt × Nat)) (j : Nat), c[j]? = some (x, k) → (∀ i, i < j → ∀ q, c[i]? = some q → q.1 ≠ x) → knownT c x = k
  | [], j, h, _ => by simp at h
  | (n, v) :: r, 0, h, _ => by
    simp only [List.getElem?_cons_zero, Option.some.injEq, Prod.mk.injEq] at h
    simp [knownT, h.1, h.2]
  | (n, v) :: r, j + 1, h, h2 => by
    have h0 : n ≠ x := h2 0 (by omega) (n, v) rfl
    have hb : (n == x) = false := by simpa using h0
    simp only [knownT, hb]
    simp only [List.getElem?_cons_succ] at h
    exact knownT_at x k r j h fun i hi q hq => h2 (i + 1) (by omega) q (by simpa using hq)
structure ScopeOk (ls : List PLet) (ks : List Nat) (c : List (Txt × Nat)) (i : Nat) : Prop where
  len : c.length = i
  at' : ∀ j, j < i → ∃ p, ls[j]? = some p ∧ c[j]? = some (p.name.text, kindAt ks p.val) ∧ kindAt ks p.val ≠ 0 ∧ 1 ≤ p.val.behind ∧ p.val.behind ≤ ks.length
theorem ScopeOk.inScope {ls : List PLet} {ks : List Nat} {c : List (Txt × Nat)} {i : Nat} (h : ScopeOk ls ks c i) {x : Txt} (hx : letIx ls x < i) : Scoped ls ks c x := by
  obtain ⟨p, h1, h2, h3, h4, h5⟩ := h.at' _ hx
  have hlt : letIx ls x < ls.length := by
    rw [List.getElem?_eq_some_iff] at h1; exact h1.1
  have hnm : p.name.text = x := by
    have := List.findIdx_getElem (p := fun p : PLet => p.name.text == x) (xs := ls) (w := hlt)
    rw [List.getElem?_eq_some_iff] at h1
    obtain ⟨_, h1'⟩ := h1
    have e : ls[ls.findIdx (fun p => p.name.text == x)] = p := h1'
    rw [e] at this
    exact beq_iff_eq.1 this
  have hk : knownT c x = kindAt ks p.val := by
    refine knownT_at x _ c (letIx ls x) (by rw [h2, hnm]) fun j hj q hq => ?_
    obtain ⟨p', g1, g2, _⟩ := h.at' j (by omega)
    rw [g2] at hq
    cases hq
    simp only
    have := List.not_of_lt_findIdx (p := fun p : PLet => p.name.text == x) (xs := ls) (i := j) hj
    rw [List.getElem?_eq_some_iff] at g1
    obtain ⟨_, g1'⟩ := g1
    rw [g1'] at this
    simpa using this
  exact ⟨p, h1, h4, h5, hk.symm, by rw [hk]; exact h3⟩
theorem ScopeOk.more {ls : List PLet} {ks : List Nat} {c : List (Txt × Nat)} {i : Nat} (h : ScopeOk ls ks c i) (ks' : List Nat) : ScopeOk ls (ks ++ ks') c i := by
  refine ⟨h.len, fun j hj => ?_⟩
  obtain ⟨p, h1, h2, h3, h4, h5⟩ := h.at' j hj
  have e : kindAt (ks ++ ks') p.val = kindAt ks p.val := getD_left (by omega)
  exact ⟨p, h1, by rw [e]; exact h2, by rw [e]; exact h3, h4, by simp; omega⟩
theorem names_none (ls : List PLet) (i : Nat) : ∀ (l : List RTok), namesToks ls i l = none → ∀ x ∈ l, nameT x.text = true → letIx ls x.text < i
  | [], _, x, hx, _ => by cases hx
  | t :: r, h, x, hx, hn => by
    simp only [namesToks] at h
    split at h
    · cases h
    · rename_i hc
      simp only [List.mem_cons] at hx
      rcases hx with rfl | hx
      · simp only [hn, Bool.true_and, decide_eq_true_eq] at hc; omega
      · exact names_none ls i r h x hx hn
def RSt.may (s : RSt) : Prop := ∀ x ∈ s.body, mayT x.text = true
/-- An EXPR behind `when` or `score` is looked at. -/
theorem look_for {ls : List PLet} {N pre post : List PNode} {ks : List Nat} {c : List (Txt × Nat)} {e : Tr} {want : Nat} (hw : e.wf) (hm : ∀ x ∈ e.toks, mayT x.text = true) (hk : ks.length = pre.length) (hN : N = pre ++ e.flat pre.length ++ post) (hs : ∀ x ∈ e.toks, nameT x.text = true → Scoped ls ks c x.text) :
    match exprK c want (some e) with
    | some p => (lookFor ls N want (layE pre.length e) (ks, none)).2 = some p
    | none => ∃ ks', ks'.length = e.num ∧ lookFor ls N want (layE pre.length e) (ks, none) = (ks ++ ks', none) := by
  have h := look_tree ls c e hw ks hm hs
  rw [hk] at h
  have hseg := seg_lay hw hN
  simp only [exprK]
  cases hc : kindT c e with
  | error p =>
    rw [hc] at h
    obtain ⟨ks', h1, h2⟩ := h
    simp only [lookFor, hseg, h2, failK_some]
  | ok k =>
    rw [hc] at h
    obtain ⟨hk0, ks', h1, h2, h3⟩ := h
    have ha : kindAt (ks ++ ks') (layE pre.length e) = k := by rw [← h3, hk]; rfl
    by_cases hkw : k = want
    · subst hkw
      simp only [if_true]
      exact ⟨ks', h1, by simp [lookFor, hseg, h2, ha, failK]⟩
    · simp only [if_neg hkw]
      show failK (lookGo ls ks none (segE N (layE pre.length e))).2 (decide (kindAt (lookGo ls ks none (segE N (layE pre.length e))).1 (layE pre.length e) ≠ want)) (firstAt e) = _
      rw [hseg, h2]
      simp [failK, ha, hkw]
theorem kinds_rules (N : List PNode) (ls : List PLet) (c : List (Txt × Nat)) : ∀ (R : List RSt), isRuleL' R → (∀ s ∈ R, s.wf ∧ s.may) → ∀ (pre : List PNode) (ks : List Nat), ks.length = pre.length → ScopeOk ls ks c ls.length → N = pre ++ nodesS pre.length R → pNamesR N ls (rulesS pre.length R) = none →
    (kindsR ls N (ks, none) (rulesS pre.length R)).2 = rulesK c R
  | [], _, _, _, _, _, _, _, _ => rfl
  | s :: r, hr, hw, pre, ks, hk, hsc, hN, hnm => by
    rcases s.cases with ⟨kw, name, eq, e, semi, rfl⟩ | ⟨wh, act, sc, semi, rfl⟩
    · have := hr _ List.mem_cons_self; cases this
    obtain ⟨⟨w1, w2, w3, w4⟩, hmay⟩ := hw _ List.mem_cons_self
    simp only at w1 w2 w3 w4
    have ho1 : ∀ e, wh.map Prod.snd = some e → e.wf := by
      intro e he
      cases wh with
      | none => cases he
      | some p => cases he; exact (w1 p.1 p.2 rfl).2
    have ho2 : ∀ e, sc = some e → e.wf := w3
    have hN1 : N = pre ++ optNodes pre.length (wh.map Prod.snd) ++ (optNodes (pre.length + optNum (wh.map Prod.snd)) sc ++ nodesS (pre.length + (RSt.rule wh act sc semi).num) r) := by
      rw [hN, nodesS, RSt.nodes_rule]; simp [List.append_assoc]
    have hl1 : (pre ++ optNodes pre.length (wh.map Prod.snd)).length = pre.length + optNum (wh.map Prod.snd) := by rw [List.length_append, optNodes_len _ ho1]
    have hN2 : N = (pre ++ optNodes pre.length (wh.map Prod.snd)) ++ optNodes (pre.length + optNum (wh.map Prod.snd)) sc ++ nodesS (pre.length + (RSt.rule wh act sc semi).num) r := by
      rw [hN1]; simp [List.append_assoc]
    have hl2 : (pre ++ (RSt.rule wh act sc semi).nodes pre.length).length = pre.length + (RSt.rule wh act sc semi).num := by rw [List.length_append, RSt.nodes_len _ (hw _ List.mem_cons_self).1]
    rw [rulesS, RSt.rules_rule, List.singleton_append, pNamesR] at hnm
    simp only at hnm
    rw [seg_opt ho1 _ rfl hN1, seg_opt ho2 _ hl1.symm hN2, names_opt ls _ _ ho1, names_opt ls _ _ ho2] at hnm
    have hn1 : namesToks ls ls.length (optToks (wh.map Prod.snd)) = none := by
      cases h : namesToks ls ls.length (optToks (wh.map Prod.snd)) with
      | none => rfl
      | some q => rw [h] at hnm; cases hnm
    rw [hn1] at hnm
    simp only at hnm
    have hn2 : namesToks ls ls.length (optToks sc) = none := by
      cases h : namesToks ls ls.length (optToks sc) with
      | none => rfl
      | some q => rw [h] at hnm; cases hnm
    rw [hn2] at hnm
    simp only at hnm
    have hm1 : ∀ e, wh.map Prod.snd = some e → ∀ x ∈ e.toks, mayT x.text = true := by
      intro e he x hx
      cases wh with
      | none => cases he
      | some p => cases he; exact hmay x (by rw [RSt.body_rule]; simp [whToks, hx])
    have hm2 : ∀ e, sc = some e → ∀ x ∈ e.toks, mayT x.text = true := by
      intro e he x hx
      subst he
      exact hmay x (by rw [RSt.body_rule]; simp [optToks, hx])
    rw [rulesS, RSt.rules_rule, List.singleton_append, kindsR, rulesK_rule]
    -- behind the `when`
    have step1 : match exprK c 2 (wh.map Prod.snd) with
        | some p => (whenK ls N ⟨wh.isSome, optE pre.length (wh.map Prod.snd), sc.isSome, optE (pre.length + optNum (wh.map Prod.snd)) sc⟩ (ks, none)).2 = some p
        | none => ∃ ks', ks'.length = optNum (wh.map Prod.snd) ∧ whenK ls N ⟨wh.isSome, optE pre.length (wh.map Prod.snd), sc.isSome, optE (pre.length + optNum (wh.map Prod.snd)) sc⟩ (ks, none) = (ks ++ ks', none) := by
      cases wh with
      | none => exact ⟨[], rfl, by simp [whenK]⟩
      | some p =>
        obtain ⟨k, e⟩ := p
        have := look_for (want := 2) (ho1 e rfl) (hm1 e rfl) hk hN1 (fun x hx hx2 => hsc.inScope (names_none ls _ _ hn1 x hx hx2))
        simp only [whenK, Option.isSome_some, if_true]
        exact this
    cases hx1 : exprK c 2 (wh.map Prod.snd) with
    | some p =>
      rw [hx1] at step1
      exact kindsR_some ls N p _ _ (scoreK_some ls N _ _ p step1)
    | none =>
      rw [hx1] at step1
      obtain ⟨ks1, g1, g2⟩ := step1
      simp only
      rw [g2]
      have hk1 : (ks ++ ks1).length = (pre ++ optNodes pre.length (wh.map Prod.snd)).length := by rw [hl1]; simp [g1, hk]
      have step2 : match exprK c 1 sc with
          | some p => (scoreK ls N ⟨wh.isSome, optE pre.length (wh.map Prod.snd), sc.isSome, optE (pre.length + optNum (wh.map Prod.snd)) sc⟩ (ks ++ ks1, none)).2 = some p
          | none => ∃ ks', ks'.length = optNum sc ∧ scoreK ls N ⟨wh.isSome, optE pre.length (wh.map Prod.snd), sc.isSome, optE (pre.length + optNum (wh.map Prod.snd)) sc⟩ (ks ++ ks1, none) = (ks ++ ks1 ++ ks', none) := by
        cases sc with
        | none => exact ⟨[], rfl, by simp [scoreK]⟩
        | some e =>
          rw [← hl1] at hN2 ⊢
          have := look_for (want := 1) (ho2 e rfl) (hm2 e rfl) hk1 hN2 (fun x hx hx2 => (hsc.inScope (names_none ls _ _ hn2 x hx hx2)).more ks1)
          simp only [scoreK, Option.isSome_some, if_true]
          exact this
      cases hx2 : exprK c 1 sc with
      | some p =>
        rw [hx2] at step2
        exact kindsR_some ls N p _ _ step2
      | none =>
        rw [hx2] at step2
        obtain ⟨ks2, g3, g4⟩ := step2
        simp only
        rw [g4]
        have ih := kinds_rules N ls c r (fun x hx => hr x (by simp [hx])) (fun x hx => hw x (by simp [hx])) (pre ++ (RSt.rule wh act sc semi).nodes pre.length) (ks ++ ks1 ++ ks2) (by rw [hl2, RSt.num_rule]; simp [hk, g1, g3, Nat.add_assoc]) ((hsc.more ks1).more ks2) (by rw [hl2, hN, nodesS]; simp [List.append_assoc]) (by rw [hl2]; exact hnm)
        rw [hl2] at ih
        exact ih
theorem kinds_lets (N : List PNode) (ls : List PLet) (R : List RSt) (hR : isRuleL' R) (hRw : ∀ s ∈ R, s.wf ∧ s.may) : ∀ (B A : List RSt), isLetL' A → isLetL' B → (∀ s ∈ A, s.wf) → (∀ s ∈ B, s.wf ∧ s.may) → ls = letsS 0 (A ++ B) → N = nodesS 0 (A ++ B ++ R) → ∀ (ks : List Nat) (c : List (Txt × Nat)), ks.length = numS A → ScopeOk ls ks c A.length → pNamesL N ls A.length (letsS (numS A) B) = none → pNamesR N ls (rulesS (numS (A ++ B)) R) = none →
    (kindsR ls N (kindsL ls N (ks, none) (letsS (numS A) B)) (rulesS (numS (A ++ B)) R)).2 = match letsK c B with
      | .error p => some p
      | .ok c' => rulesK c' R
  | [], A, hA, _, hAw, _, hls, hN, ks, c, hk, hsc, _, hn => by
    have hlen : ls.length = A.length := by rw [hls, List.append_nil, lets_len A hA]
    have hl : (nodesS 0 A).length = numS A := nodesS_len A hAw 0
    simp only [letsS, kindsL, letsK, List.append_nil] at hn ⊢
    have := kinds_rules N ls c R hR hRw (nodesS 0 A) ks (by rw [hl, hk]) (by rw [hlen]; exact hsc) (by rw [hN, List.append_nil, nodesS_append, hl, Nat.zero_add]) (by rw [hl]; exact hn)
    rw [hl] at this
    exact this
  | s :: B, A, hA, hB, hAw, hBw, hls, hN, ks, c, hk, hsc, hn1, hn2 => by
    rcases s.cases with ⟨kw, name, eq, e, semi, rfl⟩ | ⟨wh, act, sc, semi, rfl⟩
    rotate_left
    · have := hB _ List.mem_cons_self; cases this
    obtain ⟨⟨w1, w2, w3, w4, w5⟩, hmay⟩ := hBw _ List.mem_cons_self
    simp only at w1 w2 w3 w4 w5
    have hme : ∀ x ∈ e.toks, mayT x.text = true := fun x hx => hmay x (by rw [RSt.body_let]; simp [hx])
    have hAl : (letsS 0 A).length = A.length := lets_len A hA 0
    have hgi : ls[A.length]? = some ⟨name, layE (numS A) e⟩ := by
      rw [hls, letsS_append, List.getElem?_append_right (by omega), hAl, Nat.sub_self, letsS, RSt.lets_let]
      simp
    have hn0 : (nodesS 0 A).length = numS A := nodesS_len A hAw 0
    have hseg : segE N (layE (numS A) e) = e.flat (numS A) := by
      rw [← hn0]
      refine seg_lay (post := nodesS (numS A + e.num) (B ++ R)) w4 ?_
      rw [hN, List.append_assoc, nodesS_append, hn0, Nat.zero_add, List.cons_append, nodesS, RSt.nodes_let, RSt.num_let]; simp [List.append_assoc]
    rw [letsS, RSt.lets_let, RSt.num_let, List.singleton_append, pNamesL] at hn1
    simp only at hn1
    rw [hseg, names_tree ls _ e w4] at hn1
    split at hn1
    · cases hn1
    have hnt : namesToks ls A.length e.toks = none := by
      cases h : namesToks ls A.length e.toks with
      | none => rfl
      | some q => rw [h] at hn1; cases hn1
    rw [hnt] at hn1
    simp only at hn1
    rw [letsS, RSt.lets_let, RSt.num_let, List.singleton_append, kindsL, letsK_let]
    simp only
    rw [hseg]
    have hL := look_tree ls c e w4 ks hme (fun x hx hx2 => hsc.inScope (names_none ls _ _ hnt x hx hx2))
    rw [hk] at hL
    cases hc : kindT c e with
    | error p =>
      rw [hc] at hL
      obtain ⟨ks', g1, g2⟩ := hL
      rw [g2]
      exact kindsR_some ls N p _ _ (kindsL_some ls N p _ _ rfl)
    | ok k =>
      rw [hc] at hL
      obtain ⟨hk0, ks', g1, g2, g3⟩ := hL
      rw [g2]
      simp only
      have hpos := e.num_pos w4
      have hka : kindAt (ks ++ ks') (layE (numS A) e) = k := by rw [← g3, hk]; rfl
      have hnum : numS (A ++ [RSt.letS kw name eq e semi]) = numS A + e.num := by rw [numS_append]; simp [numS, RSt.num_let]
      have ih := kinds_lets N ls R hR hRw B (A ++ [.letS kw name eq e semi]) (by intro x hx; simp at hx; rcases hx with hx | rfl; exact hA x hx; rfl) (fun x hx => hB x (by simp [hx])) (by intro x hx; simp at hx; rcases hx with hx | rfl; exact hAw x hx; exact ⟨w1, w2, w3, w4, w5⟩) (fun x hx => hBw x (by simp [hx])) (by rw [hls]; simp) (by rw [hN]; simp) (ks ++ ks') (c ++ [(name.text, k)]) (by rw [hnum]; simp [hk, g1]) ?_ (by rw [hnum]; simpa using hn1) (by rw [List.append_assoc]; exact hn2)
      · rw [hnum, List.append_assoc] at ih
        exact ih
      · refine ⟨by simp [hsc.len], fun j hj => ?_⟩
        simp only [List.length_append, List.length_cons, List.length_nil] at hj
        by_cases hj2 : j < A.length
        · obtain ⟨p, q1, q2, q3, q4, q5⟩ := (hsc.more ks').at' j hj2
          exact ⟨p, q1, by rw [List.getElem?_append_left (by rw [hsc.len]; omega)]; exact q2, q3, q4, q5⟩
        · have : j = A.length := by omega
          subst this
          refine ⟨_, hgi, ?_, by rw [hka]; exact hk0, by simp [layE]; omega, by simp [layE, hk, g1]⟩
          rw [hka, List.getElem?_append_right (by rw [hsc.len]; omega), hsc.len, Nat.sub_self]
          rfl
theorem kinds_same (L R : List RSt) (hL : isLetL' L) (hR : isRuleL' R) (hw : ∀ s ∈ L ++ R, s.wf ∧ s.may) (hn : pNames (nodesS 0 (L ++ R)) (letsS 0 (L ++ R)) (rulesS 0 (L ++ R)) = none) :
    pKinds (nodesS 0 (L ++ R)) (letsS 0 (L ++ R)) (rulesS 0 (L ++ R)) = wrongT L R := by
  have h1 : letsS 0 (L ++ R) = letsS 0 ([] ++ L) := by rw [letsS_append, lets_none R hR, List.append_nil, List.nil_append]
  have h2 : rulesS 0 (L ++ R) = rulesS (numS L) R := by rw [rulesS_append, rules_none L hL, List.nil_append, Nat.zero_add]
  unfold pNames at hn
  cases hp : pNamesL (nodesS 0 (L ++ R)) (letsS 0 (L ++ R)) 0 (letsS 0 (L ++ R)) with
  | some q => rw [hp] at hn; cases hn
  | none =>
    rw [hp] at hn
    simp only at hn
    have := kinds_lets (nodesS 0 (L ++ R)) (letsS 0 (L ++ R)) R hR (fun s hs => hw s (by simp [hs])) L [] (fun s hs => by cases hs) hL (fun s hs => by cases hs) (fun s hs => hw s (by simp [hs])) h1 rfl [] [] rfl ⟨rfl, fun j hj => by cases hj⟩ (by rw [h1] at hp; rw [h1]; exact hp) (by rw [h2] at hn; exact hn)
    rw [wrongT, pKinds, h2]
    have e4 : letsS (numS []) L = letsS 0 (L ++ R) := by rw [h1]; rfl
    rw [e4] at this
    refine Eq.trans ?_ (this.trans ?_)
    · rfl
    · cases letsK [] L <;> rfl
end Go.Proofs.YtffpmkgjnjdbaabGreatDoor

set_option linter.unusedVariables false
set_option linter.unusedSimpArgs false
namespace Go.Proofs.YtffpmkgjnjdbaabGreatDoor
open Go.Deep

def partNode (ls : List PLet) (sz : List Nat) (t : RTok) : Nat := if kindP t.text = 2 then sz.getD (letIx ls t.text) 0 else 1
def countGo (ls : List PLet) (sz : List Nat) : Nat → List PNode → Nat
  | c, [] => c
  | c, n :: r => if c ≤ 150 then countGo ls sz (c + partNode ls sz n.tok) r else c
def sumN (ls : List PLet) (sz : List Nat) : List PNode → Nat
  | [] => 0
  | n :: r => partNode ls sz n.tok + sumN ls sz r
def sumT (ps : List (Txt × Nat)) : List RTok → Nat
  | [] => 0
  | t :: r => partOne ps t.text + sumT ps r
/-- Two counts are the same, or both too many. -/
def Sim (a b : Nat) : Prop := (a ≤ 150 ∧ a = b) ∨ (150 < a ∧ 150 < b)
theorem Sim.add {a b c d : Nat} (h : Sim a b) (g : Sim c d) : Sim (a + c) (b + d) := by unfold Sim at *; omega
theorem Sim.refl (a : Nat) : Sim a a := by unfold Sim; omega
theorem Sim.trans {a b c : Nat} (h : Sim a b) (g : Sim b c) : Sim a c := by unfold Sim at *; omega
theorem Sim.symm {a b : Nat} (h : Sim a b) : Sim b a := by unfold Sim at *; omega
theorem count_sim (ls : List PLet) (sz : List Nat) : ∀ (l : List PNode) (c : Nat), Sim (countGo ls sz c l) (c + sumN ls sz l)
  | [], c => by simp only [countGo, sumN]; exact Sim.refl c
  | n :: r, c => by
    simp only [countGo, sumN]
    split
    · have := count_sim ls sz r (c + partNode ls sz n.tok)
      rw [Nat.add_assoc] at this
      exact this
    · unfold Sim; omega
theorem parts_sim (ps : List (Txt × Nat)) : ∀ (l : List RTok) (c : Nat), Sim (partsGo ps c l) (c + sumT ps l)
  | [], c => by simp only [partsGo, sumT]; exact Sim.refl c
  | t :: r, c => by
    simp only [partsGo, sumT]
    split
    · unfold Sim; omega
    · have := parts_sim ps r (c + partOne ps t.text)
      rw [Nat.add_assoc] at this
      exact this
theorem sumT_append (ps : List (Txt × Nat)) : ∀ (a b : List RTok), sumT ps (a ++ b) = sumT ps a + sumT ps b
  | [], b => by simp [sumT]
  | t :: r, b => by simp only [List.cons_append, sumT, sumT_append ps r b]; omega
theorem sumN_append (ls : List PLet) (sz : List Nat) : ∀ (a b : List PNode), sumN ls sz (a ++ b) = sumN ls sz a + sumN ls sz b
  | [], b => by simp [sumN]
  | t :: r, b => by simp only [List.cons_append, sumN, sumN_append ls sz r b]; omega
theorem partFold_none (x : Txt) : ∀ (ps : List (Txt × Nat)) (k : Nat), (∀ p ∈ ps, p.1 ≠ x) → partFold ps k x = k
  | [], k, _ => rfl
  | (n, s) :: r, k, h => by
    have h0 : (n == x) = false := by simpa using h (n, s) (by simp)
    simp only [partFold, h0]
    exact partFold_none x r k fun p hp => h p (by simp [hp])
theorem partFold_at (x : Txt) (v : Nat) : ∀ (ps : List (Txt × Nat)) (j k : Nat), ps[j]? = some (x, v) → (∀ i, i ≠ j → ∀ q, ps[i]? = some q → q.1 ≠ x) → partFold ps k x = v
  | [], j, k, h, _ => by simp at h
  | (n, s) :: r, 0, k, h, h2 => by
    simp only [List.getElem?_cons_zero, Option.some.injEq, Prod.mk.injEq] at h
    simp only [partFold, h.1, h.2, beq_self_eq_true, if_true]
    refine partFold_none x r v fun p hp => ?_
    obtain ⟨i, hi, rfl⟩ := List.getElem_of_mem hp
    exact h2 (i + 1) (by omega) _ (by simp [hi])
  | (n, s) :: r, j + 1, k, h, h2 => by
    have h0 : (n == x) = false := by simpa using h2 0 (by omega) (n, s) rfl
    simp only [partFold, h0]
    simp only [List.getElem?_cons_succ] at h
    exact partFold_at x v r j _ h fun i hi q hq => h2 (i + 1) (by omega) q (by simpa using hq)
/-- The names and sizes of the first lets, on both sides. -/
structure SizesOk (ls : List PLet) (sz : List Nat) (ps : List (Txt × Nat)) (i : Nat) : Prop where
  len : ps.length = i
  szl : sz.length = i
  le : i ≤ ls.length
  at' : ∀ j, j < i → ∃ p a b, ls[j]? = some p ∧ sz[j]? = some a ∧ ps[j]? = some (p.name.text, b) ∧ Sim a b
  dis : ∀ j p, j < i → ls[j]? = some p → letIx ls p.name.text = j
theorem letIx_name {ls : List PLet} {x : Txt} {p : PLet} (h : ls[letIx ls x]? = some p) : p.name.text = x := by
  rw [List.getElem?_eq_some_iff] at h
  obtain ⟨hlt, h1'⟩ := h
  have := List.findIdx_getElem (p := fun p : PLet => p.name.text == x) (xs := ls) (w := hlt)
  have e : ls[ls.findIdx (fun p => p.name.text == x)] = p := h1'
  rw [e] at this
  exact beq_iff_eq.1 this
theorem part_name {ls : List PLet} {sz : List Nat} {ps : List (Txt × Nat)} {i : Nat} (h : SizesOk ls sz ps i) {t : RTok} (hm : mayT t.text = true) (hn : nameT t.text = true) (hx : letIx ls t.text < i) : Sim (partNode ls sz t) (partOne ps t.text) := by
  obtain ⟨p, a, b, h1, h2, h3, h4⟩ := h.at' _ hx
  have hk : kindP t.text = 2 := (kindOf _ hm).kname.2 hn
  have hnm := letIx_name h1
  have e1 : partNode ls sz t = a := by simp [partNode, hk, h2]
  have e2 : partOne ps t.text = b := by
    unfold partOne
    refine partFold_at t.text b ps _ _ (by rw [h3, hnm]) fun j hj q hq he => ?_
    by_cases hji : j < i
    · obtain ⟨p', a', b', g1, g2, g3, g4⟩ := h.at' j hji
      rw [g3] at hq
      cases hq
      have := h.dis j p' hji g1
      simp only at he
      rw [he] at this
      omega
    · rw [List.getElem?_eq_none (by rw [h.len]; omega)] at hq
      cases hq
  rw [e1, e2]
  exact h4
theorem part_other {ls : List PLet} {sz : List Nat} {ps : List (Txt × Nat)} {i : Nat} (h : SizesOk ls sz ps i) (hls : ∀ p ∈ ls, nameT p.name.text = true) {t : RTok} (hm : mayT t.text = true) (hn : nameT t.text = false) : partNode ls sz t = 1 ∧ partOne ps t.text = if t.text == cOpen || t.text == cClose then 0 else 1 := by
  have hk : kindP t.text ≠ 2 := fun e => by rw [(kindOf _ hm).kname.1 e] at hn; cases hn
  refine ⟨by simp [partNode, hk], ?_⟩
  unfold partOne
  refine partFold_none _ ps _ fun p hp he => ?_
  obtain ⟨j, hj, rfl⟩ := List.getElem_of_mem hp
  obtain ⟨p', a', b', g1, g2, g3, g4⟩ := h.at' j (by rw [← h.len]; exact hj)
  rw [List.getElem?_eq_getElem hj] at g3
  simp only [Option.some.injEq] at g3
  have hm' := hls p' (List.mem_of_getElem? g1)
  rw [g3] at he
  simp only at he
  rw [he, hn] at hm'
  cases hm'
theorem sum_tree {ls : List PLet} {sz : List Nat} {ps : List (Txt × Nat)} {i : Nat} (h : SizesOk ls sz ps i) (hls : ∀ p ∈ ls, nameT p.name.text = true) (t : Tr) (hw : t.wf) : (∀ x ∈ t.toks, mayT x.text = true) → (∀ x ∈ t.toks, nameT x.text = true → letIx ls x.text < i) → ∀ b, Sim (sumN ls sz (t.flat b)) (sumT ps t.toks) := by
  refine Tr.ind (P := fun t => (∀ x ∈ t.toks, mayT x.text = true) → (∀ x ∈ t.toks, nameT x.text = true → letIx ls x.text < i) → ∀ b, Sim (sumN ls sz (t.flat b)) (sumT ps t.toks)) t hw ?_ ?_ ?_ ?_
  · intro a ha hm hn b
    rw [Tr.flat_leaf, Tr.toks_leaf]
    simp only [sumN, sumT, Nat.add_zero]
    have hma := hm a (by simp [Tr.toks_leaf])
    cases hna : nameT a.text with
    | true => exact part_name h hma hna (hn a (by simp [Tr.toks_leaf]) hna)
    | false =>
      obtain ⟨g1, g2⟩ := part_other h hls hma hna
      obtain ⟨_, n1, n2, _⟩ := Tr.wf_leaf ha
      rw [g1, g2, if_neg (by simp [n1, n2])]
      exact Sim.refl 1
  · intro op e hwu ih hm hn b
    have hma := hm op (by simp [Tr.toks_un])
    obtain ⟨g1, g2⟩ := part_other h hls hma (un_no_name (Tr.wf_un hwu).1)
    have n1 : (op.text == cOpen || op.text == cClose) = false := by
      have := (Tr.wf_un hwu).1
      simp only [unT, Bool.or_eq_true, beq_iff_eq] at this
      rcases this with e | e <;> rw [e] <;> decide
    rw [Tr.flat_un, Tr.toks_un, sumN_append]
    simp only [sumN, sumT, Nat.add_zero, g1, g2, n1]
    rw [Nat.add_comm]
    exact Sim.add (Sim.refl 1) (ih (fun x hx => hm x (by simp [Tr.toks_un, hx])) (fun x hx => hn x (by simp [Tr.toks_un, hx])) b)
  · intro op l r hwb h1 h2 hm hn b
    obtain ⟨w1, w2, w3, _⟩ := Tr.wf_bin hwb
    have hma := hm op (by simp [Tr.toks_bin])
    obtain ⟨g1, g2⟩ := part_other h hls hma (bin_no_name w1)
    rw [Tr.flat_bin, Tr.toks_bin, sumN_append, sumN_append, sumT_append]
    simp only [sumN, sumT, Nat.add_zero, g1, g2]
    rw [if_neg (by simp [w2, w3])]
    have i1 := h1 (fun x hx => hm x (by simp [Tr.toks_bin, hx])) (fun x hx => hn x (by simp [Tr.toks_bin, hx])) b
    have i2 := h2 (fun x hx => hm x (by simp [Tr.toks_bin, hx])) (fun x hx => hn x (by simp [Tr.toks_bin, hx])) (b + l.num)
    have := Sim.add (Sim.add i1 i2) (Sim.refl 1)
    rw [show sumT ps l.toks + (1 + sumT ps r.toks) = sumT ps l.toks + sumT ps r.toks + 1 by omega]
    exact this
  · intro o e c hwp ih hm hn b
    obtain ⟨w1, w2, w3⟩ := Tr.wf_par hwp
    obtain ⟨_, g2⟩ := part_other (t := o) h hls (hm o (by simp [Tr.toks_par])) (by rw [w1]; decide)
    obtain ⟨_, g4⟩ := part_other (t := c) h hls (hm c (by simp [Tr.toks_par])) (by rw [w2]; decide)
    rw [Tr.flat_par, Tr.toks_par]
    rw [w1] at g2
    rw [w2] at g4
    simp only [sumT, sumT_append, w1, w2, g2, g4]
    have := ih (fun x hx => hm x (by simp [Tr.toks_par, hx])) (fun x hx => hn x (by simp [Tr.toks_par, hx])) b
    simpa [cOpen, cClose] using this

def sizesL (ls : List PLet) (N : List PNode) : List Nat → List PLet → List Nat
  | sz, [] => sz
  | sz, p :: r => sizesL ls N (sz ++ [countGo ls sz 0 (segE N p.val)]) r
def partsR (ls : List PLet) (N : List PNode) (sz : List Nat) : Nat → List PRule → Nat
  | a, [] => a
  | a, p :: r => partsR ls N sz (a + countGo ls sz 0 (segE N p.when) + countGo ls sz 0 (segE N p.score)) r
def pParts (N : List PNode) (ls : List PLet) (rs : List PRule) : Nat := partsR ls N (sizesL ls N [] ls) 0 rs
theorem count_expr {ls : List PLet} {sz : List Nat} {ps : List (Txt × Nat)} {i : Nat} (h : SizesOk ls sz ps i) (hls : ∀ p ∈ ls, nameT p.name.text = true) (t : Tr) (hw : t.wf) (hm : ∀ x ∈ t.toks, mayT x.text = true) (hn : namesToks ls i t.toks = none) (b : Nat) : Sim (countGo ls sz 0 (t.flat b)) (partsGo ps 0 t.toks) := by
  have h1 := count_sim ls sz (t.flat b) 0
  have h2 := parts_sim ps t.toks 0
  have h3 := sum_tree h hls t hw hm (names_none ls i _ hn) b
  rw [Nat.zero_add] at h1 h2
  exact h1.trans (h3.trans h2.symm)
theorem count_opt {ls : List PLet} {sz : List Nat} {ps : List (Txt × Nat)} {i : Nat} (h : SizesOk ls sz ps i) (hls : ∀ p ∈ ls, nameT p.name.text = true) (o : Option Tr) (hw : ∀ e, o = some e → e.wf) (hm : ∀ e, o = some e → ∀ x ∈ e.toks, mayT x.text = true) (hn : namesToks ls i (optToks o) = none) (b : Nat) : Sim (countGo ls sz 0 (optNodes b o)) (partsGo ps 0 (optToks o)) := by
  cases o with
  | none => exact Sim.refl 0
  | some e => exact count_expr h hls e (hw e rfl) (hm e rfl) hn b
theorem parts_rules (N : List PNode) (ls : List PLet) (sz : List Nat) (ps : List (Txt × Nat)) (hz : SizesOk ls sz ps ls.length) (hls : ∀ p ∈ ls, nameT p.name.text = true) : ∀ (R : List RSt), isRuleL' R → (∀ s ∈ R, s.wf ∧ s.may) → ∀ (pre : List PNode) (a b : Nat), Sim a b → N = pre ++ nodesS pre.length R → pNamesR N ls (rulesS pre.length R) = none →
    Sim (partsR ls N sz a (rulesS pre.length R)) (b + rulePartsGo ps R)
  | [], _, _, _, a, b, hab, _, _ => by simpa [rulesS, partsR, rulePartsGo] using hab
  | s :: r, hr, hw, pre, a, b, hab, hN, hnm => by
    rcases s.cases with ⟨kw, name, eq, e, semi, rfl⟩ | ⟨wh, act, sc, semi, rfl⟩
    · have := hr _ List.mem_cons_self; cases this
    obtain ⟨⟨w1, w2, w3, w4⟩, hmay⟩ := hw _ List.mem_cons_self
    simp only at w1 w2 w3 w4
    have ho1 : ∀ e, wh.map Prod.snd = some e → e.wf := by
      intro e he
      cases wh with
      | none => cases he
      | some p => cases he; exact (w1 p.1 p.2 rfl).2
    have ho2 : ∀ e, sc = some e → e.wf := w3
    have hN1 : N = pre ++ optNodes pre.length (wh.map Prod.snd) ++ (optNodes (pre.length + optNum (wh.map Prod.snd)) sc ++ nodesS (pre.length + (RSt.rule wh act sc semi).num) r) := by
      rw [hN, nodesS, RSt.nodes_rule]; simp [List.append_assoc]
    have hl1 : (pre ++ optNodes pre.length (wh.map Prod.snd)).length = pre.length + optNum (wh.map Prod.snd) := by rw [List.length_append, optNodes_len _ ho1]
    have hN2 : N = (pre ++ optNodes pre.length (wh.map Prod.snd)) ++ optNodes (pre.length + optNum (wh.map Prod.snd)) sc ++ nodesS (pre.length + (RSt.rule wh act sc semi).num) r := by
      rw [hN1]; simp [List.append_assoc]
    have hl2 : (pre ++ (RSt.rule wh act sc semi).nodes pre.length).length = pre.length + (RSt.rule wh act sc semi).num := by rw [List.length_append, RSt.nodes_len _ (hw _ List.mem_cons_self).1]
    rw [rulesS, RSt.rules_rule, List.singleton_append, pNamesR] at hnm
    simp only at hnm
    rw [seg_opt ho1 _ rfl hN1, seg_opt ho2 _ hl1.symm hN2, names_opt ls _ _ ho1, names_opt ls _ _ ho2] at hnm
    have hn1 : namesToks ls ls.length (optToks (wh.map Prod.snd)) = none := by
      cases h : namesToks ls ls.length (optToks (wh.map Prod.snd)) with
      | none => rfl
      | some q => rw [h] at hnm; cases hnm
    rw [hn1] at hnm
    simp only at hnm
    have hn2 : namesToks ls ls.length (optToks sc) = none := by
      cases h : namesToks ls ls.length (optToks sc) with
      | none => rfl
      | some q => rw [h] at hnm; cases hnm
    rw [hn2] at hnm
    simp only at hnm
    have hm1 : ∀ e, wh.map Prod.snd = some e → ∀ x ∈ e.toks, mayT x.text = true := by
      intro e he x hx
      cases wh with
      | none => cases he
      | some p => cases he; exact hmay x (by rw [RSt.body_rule]; simp [whToks, hx])
    have hm2 : ∀ e, sc = some e → ∀ x ∈ e.toks, mayT x.text = true := by
      intro e he x hx
      subst he
      exact hmay x (by rw [RSt.body_rule]; simp [optToks, hx])
    have c1 := count_opt hz hls _ ho1 hm1 hn1 pre.length
    have c2 := count_opt hz hls _ ho2 hm2 hn2 (pre.length + optNum (wh.map Prod.snd))
    rw [rulesS, RSt.rules_rule, List.singleton_append, partsR, rulePartsGo_rule]
    simp only
    rw [seg_opt ho1 _ rfl hN1, seg_opt ho2 _ hl1.symm hN2]
    have ih := parts_rules N ls sz ps hz hls r (fun x hx => hr x (by simp [hx])) (fun x hx => hw x (by simp [hx])) (pre ++ (RSt.rule wh act sc semi).nodes pre.length) _ _ ((hab.add c1).add c2) (by rw [hl2, hN, nodesS]; simp [List.append_assoc]) (by rw [hl2]; exact hnm)
    rw [hl2] at ih
    rw [show b + (partsGo ps 0 (optToks (wh.map Prod.snd)) + partsGo ps 0 (optToks sc) + rulePartsGo ps r) = b + partsGo ps 0 (optToks (wh.map Prod.snd)) + partsGo ps 0 (optToks sc) + rulePartsGo ps r by omega]
    exact ih
theorem parts_lets (N : List PNode) (ls : List PLet) (hls' : ∀ p ∈ ls, nameT p.name.text = true) (R : List RSt) (hR : isRuleL' R) (hRw : ∀ s ∈ R, s.wf ∧ s.may) : ∀ (B A : List RSt), isLetL' A → isLetL' B → (∀ s ∈ A, s.wf) → (∀ s ∈ B, s.wf ∧ s.may) → ls = letsS 0 (A ++ B) → N = nodesS 0 (A ++ B ++ R) → ∀ (sz : List Nat) (ps : List (Txt × Nat)), SizesOk ls sz ps A.length → pNamesL N ls A.length (letsS (numS A) B) = none → pNamesR N ls (rulesS (numS (A ++ B)) R) = none →
    Sim (partsR ls N (sizesL ls N sz (letsS (numS A) B)) 0 (rulesS (numS (A ++ B)) R)) (rulePartsGo (sizesGo ps B) R)
  | [], A, hA, _, hAw, _, hls, hN, sz, ps, hz, _, hn => by
    have hlen : ls.length = A.length := by rw [hls, List.append_nil, lets_len A hA]
    have hl : (nodesS 0 A).length = numS A := nodesS_len A hAw 0
    simp only [letsS, sizesL, sizesGo, List.append_nil] at hn ⊢
    have := parts_rules N ls sz ps (by rw [hlen]; exact hz) hls' R hR hRw (nodesS 0 A) 0 0 (Sim.refl 0) (by rw [hN, List.append_nil, nodesS_append, hl, Nat.zero_add]) (by rw [hl]; exact hn)
    rw [hl, Nat.zero_add] at this
    exact this
  | s :: B, A, hA, hB, hAw, hBw, hls, hN, sz, ps, hz, hn1, hn2 => by
    rcases s.cases with ⟨kw, name, eq, e, semi, rfl⟩ | ⟨wh, act, sc, semi, rfl⟩
    rotate_left
    · have := hB _ List.mem_cons_self; cases this
    obtain ⟨⟨w1, w2, w3, w4, w5⟩, hmay⟩ := hBw _ List.mem_cons_self
    simp only at w1 w2 w3 w4 w5
    have hme : ∀ x ∈ e.toks, mayT x.text = true := fun x hx => hmay x (by rw [RSt.body_let]; simp [hx])
    have hAl : (letsS 0 A).length = A.length := lets_len A hA 0
    have hgi : ls[A.length]? = some ⟨name, layE (numS A) e⟩ := by
      rw [hls, letsS_append, List.getElem?_append_right (by omega), hAl, Nat.sub_self, letsS, RSt.lets_let]
      simp
    have hn0 : (nodesS 0 A).length = numS A := nodesS_len A hAw 0
    have hseg : segE N (layE (numS A) e) = e.flat (numS A) := by
      rw [← hn0]
      refine seg_lay (post := nodesS (numS A + e.num) (B ++ R)) w4 ?_
      rw [hN, List.append_assoc, nodesS_append, hn0, Nat.zero_add, List.cons_append, nodesS, RSt.nodes_let, RSt.num_let]; simp [List.append_assoc]
    rw [letsS, RSt.lets_let, RSt.num_let, List.singleton_append, pNamesL] at hn1
    simp only at hn1
    rw [hseg, names_tree ls _ e w4] at hn1
    split at hn1
    · cases hn1
    rename_i hix
    have hnt : namesToks ls A.length e.toks = none := by
      cases h : namesToks ls A.length e.toks with
      | none => rfl
      | some q => rw [h] at hn1; cases hn1
    rw [hnt] at hn1
    simp only at hn1
    have hc := count_expr hz hls' e w4 hme hnt (numS A)
    rw [letsS, RSt.lets_let, RSt.num_let, List.singleton_append, sizesL, sizesGo_let]
    simp only
    rw [hseg]
    have hnum : numS (A ++ [RSt.letS kw name eq e semi]) = numS A + e.num := by rw [numS_append]; simp [numS, RSt.num_let]
    have hAlt : A.length < ls.length := by rw [List.getElem?_eq_some_iff] at hgi; exact hgi.1
    have ih := parts_lets N ls hls' R hR hRw B (A ++ [.letS kw name eq e semi]) (by intro x hx; simp at hx; rcases hx with hx | rfl; exact hA x hx; rfl) (fun x hx => hB x (by simp [hx])) (by intro x hx; simp at hx; rcases hx with hx | rfl; exact hAw x hx; exact ⟨w1, w2, w3, w4, w5⟩) (fun x hx => hBw x (by simp [hx])) (by rw [hls]; simp) (by rw [hN]; simp) (sz ++ [countGo ls sz 0 (e.flat (numS A))]) (ps ++ [(name.text, partsGo ps 0 e.toks)]) ?_ (by rw [hnum]; simpa using hn1) (by rw [List.append_assoc]; exact hn2)
    · rw [hnum, List.append_assoc] at ih
      exact ih
    · refine ⟨by simp [hz.len], by simp [hz.szl], by simp; omega, fun j hj => ?_, fun j p hj hp => ?_⟩
      · simp only [List.length_append, List.length_cons, List.length_nil] at hj
        by_cases hj2 : j < A.length
        · obtain ⟨p, a, b, q1, q2, q3, q4⟩ := hz.at' j hj2
          exact ⟨p, a, b, q1, by rw [List.getElem?_append_left (by rw [hz.szl]; omega)]; exact q2, by rw [List.getElem?_append_left (by rw [hz.len]; omega)]; exact q3, q4⟩
        · have : j = A.length := by omega
          subst this
          refine ⟨_, _, _, hgi, ?_, ?_, hc⟩
          · rw [List.getElem?_append_right (by rw [hz.szl]; omega), hz.szl, Nat.sub_self]; rfl
          · rw [List.getElem?_append_right (by rw [hz.len]; omega), hz.len, Nat.sub_self]; rfl
      · simp only [List.length_append, List.length_cons, List.length_nil] at hj
        by_cases hj2 : j < A.length
        · exact hz.dis j p hj2 hp
        · have : j = A.length := by omega
          subst this
          rw [hgi] at hp
          cases hp
          simp only
          have hle : letIx ls name.text ≤ A.length := by
            unfold letIx
            apply Nat.le_of_not_lt
            intro hlt
            have := List.not_of_lt_findIdx hlt
            rw [List.getElem?_eq_some_iff] at hgi
            obtain ⟨_, hgi'⟩ := hgi
            rw [hgi'] at this
            simp at this
          omega
theorem lets_names : ∀ (L : List RSt), (∀ s ∈ L, s.wf) → ∀ b, ∀ p ∈ letsS b L, nameT p.name.text = true
  | [], _, _, p, hp => by cases hp
  | s :: r, h, b, p, hp => by
    rw [letsS, List.mem_append] at hp
    rcases hp with hp | hp
    · rcases s.cases with ⟨kw, name, eq, e, semi, rfl⟩ | ⟨wh, act, sc, semi, rfl⟩
      · rw [RSt.lets_let] at hp
        simp only [List.mem_singleton] at hp
        subst hp
        exact (h _ List.mem_cons_self).2.1
      · cases hp
    · exact lets_names r (fun x hx => h x (by simp [hx])) _ p hp
theorem parts_same (L R : List RSt) (hL : isLetL' L) (hR : isRuleL' R) (hw : ∀ s ∈ L ++ R, s.wf ∧ s.may) (hn : pNames (nodesS 0 (L ++ R)) (letsS 0 (L ++ R)) (rulesS 0 (L ++ R)) = none) :
    decide (pParts (nodesS 0 (L ++ R)) (letsS 0 (L ++ R)) (rulesS 0 (L ++ R)) > 150) = bigT L R := by
  have h1 : letsS 0 (L ++ R) = letsS 0 ([] ++ L) := by rw [letsS_append, lets_none R hR, List.append_nil, List.nil_append]
  have h2 : rulesS 0 (L ++ R) = rulesS (numS L) R := by rw [rulesS_append, rules_none L hL, List.nil_append, Nat.zero_add]
  unfold pNames at hn
  cases hp : pNamesL (nodesS 0 (L ++ R)) (letsS 0 (L ++ R)) 0 (letsS 0 (L ++ R)) with
  | some q => rw [hp] at hn; cases hn
  | none =>
    rw [hp] at hn
    simp only at hn
    have e4 : letsS (numS []) L = letsS 0 (L ++ R) := by rw [h1]; rfl
    have := parts_lets (nodesS 0 (L ++ R)) (letsS 0 (L ++ R)) (lets_names _ (fun s hs => (hw s hs).1) 0) R hR (fun s hs => hw s (by simp [hs])) L [] (fun s hs => by cases hs) hL (fun s hs => by cases hs) (fun s hs => hw s (by simp [hs])) h1 rfl [] [] ⟨rfl, rfl, Nat.zero_le _, fun j hj => (by cases hj), fun j p hj => (by cases hj)⟩ (by rw [e4]; exact hp) (by rw [h2] at hn; exact hn)
    rw [e4] at this
    unfold bigT pParts
    rw [h2, Bool.eq_iff_iff, decide_eq_true_eq, decide_eq_true_eq]
    have e5 : numS ([] ++ L) = numS L := rfl
    rw [e5] at this
    unfold Sim at this
    omega
end Go.Proofs.YtffpmkgjnjdbaabGreatDoor
