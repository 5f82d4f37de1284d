/-
  The document's look at the NAMEs of a policy, token by token.
  A policy as a list of statements whose expressions are trees: its tokens, and where each statement ends.
  How many parts a policy has, as the document counts its tokens.
  What is wrong with the kinds of a policy, as the document looks for it.
-/
import Derived.Test.YtkbbdfeobcklhaaGreatDoorX02
set_option linter.unusedVariables false
set_option linter.unusedSimpArgs false
namespace Go.Proofs.YtkbbdfeobcklhaaGreatDoor

def thereN (there : List Txt) (late : Txt) (t : Txt) : List Txt := if t == cSemi && !(late == []) then there ++ [late] else there
def lateN (late : Txt) (t : Txt) : Txt := if t == cSemi && !(late == []) then [] else late
def namesGo : List Txt → Txt → Txt → List RTok → Option Nat
  | _, _, _, [] => none
  | there, late, prev, t :: r =>
    if nameT t.text then
      if ((thereN there late t.text).contains t.text) == (prev == cLet) then some t.at'
      else namesGo (thereN there late t.text) (if prev == cLet then t.text else lateN late t.text) t.text r
    else namesGo (thereN there late t.text) (lateN late t.text) t.text r
def placeV : Option Nat → Int
  | none => -1
  | some p => p
theorem name_not_semi {t : Txt} (h : nameT t = true) : (t == cSemi) = false := by
  cases hs : (t == cSemi)
  · rfl
  · have : t = cSemi := by simpa using hs
    subst this
    revert h; decide
theorem thereN_semi {there : List Txt} {late t : Txt} (h : (t == cSemi) = true) (hl : (late == []) = false) : thereN there late t = there ++ [late] ∧ lateN late t = [] := by simp [thereN, lateN, h, hl]
theorem thereN_no {there : List Txt} {late t : Txt} (h : (t == cSemi) = false ∨ (late == []) = true) : thereN there late t = there ∧ lateN late t = late := by
  rcases h with h | h
  · simp [thereN, lateN, h]
  · simp [thereN, lateN, h]
end Go.Proofs.YtkbbdfeobcklhaaGreatDoor

set_option linter.unusedVariables false
set_option linter.unusedSimpArgs false
namespace Go.Proofs.YtkbbdfeobcklhaaGreatDoor

structure LetD where
  kw : RTok
  name : RTok
  eq : RTok
  e : Tr
  semi : RTok
structure RuleD where
  wh : Option (RTok × Tr)
  act : RTok
  sc : Option Tr
  semi : RTok
/-- A statement: a LET or a RULE. -/
def RSt : Type := Sum LetD RuleD
def RSt.letS (kw name eq : RTok) (e : Tr) (semi : RTok) : RSt := Sum.inl ⟨kw, name, eq, e, semi⟩
def RSt.rule (wh : Option (RTok × Tr)) (act : RTok) (sc : Option Tr) (semi : RTok) : RSt := Sum.inr ⟨wh, act, sc, semi⟩
theorem RSt.cases (s : RSt) : (∃ kw name eq e semi, s = .letS kw name eq e semi) ∨ (∃ wh act sc semi, s = .rule wh act sc semi) := by
  rcases s with ⟨kw, name, eq, e, semi⟩ | ⟨wh, act, sc, semi⟩
  · exact .inl ⟨kw, name, eq, e, semi, rfl⟩
  · exact .inr ⟨wh, act, sc, semi, rfl⟩
def optToks : Option Tr → List RTok
  | none => []
  | some e => e.toks
def whToks : Option (RTok × Tr) → List RTok
  | none => []
  | some (k, e) => k :: e.toks
def RSt.body (s : RSt) : List RTok := Sum.elim (fun d : LetD => d.kw :: d.name :: d.eq :: d.e.toks) (fun d : RuleD => whToks d.wh ++ d.act :: optToks d.sc) s
def RSt.semi (s : RSt) : RTok := Sum.elim LetD.semi RuleD.semi s
theorem RSt.body_let (kw name eq : RTok) (e : Tr) (semi : RTok) : (RSt.letS kw name eq e semi).body = kw :: name :: eq :: e.toks := rfl
theorem RSt.body_rule (wh : Option (RTok × Tr)) (act : RTok) (sc : Option Tr) (semi : RTok) : (RSt.rule wh act sc semi).body = whToks wh ++ act :: optToks sc := rfl
def RSt.toks (s : RSt) : List RTok := s.body ++ [s.semi]
def toksL (l : List RSt) : List RTok := l.flatMap RSt.toks
def RSt.isLet (s : RSt) : Bool := Sum.elim (fun _ : LetD => true) (fun _ : RuleD => false) s
def RSt.wf (s : RSt) : Prop := Sum.elim (fun d : LetD => d.kw.text = cLet ∧ nameT d.name.text = true ∧ d.eq.text = cEq ∧ d.e.wf ∧ d.semi.text = cSemi) (fun d : RuleD => (∀ k e, d.wh = some (k, e) → k.text = cWhen ∧ e.wf) ∧ d.act.text = (if d.sc.isSome then cScore else cReject) ∧ (∀ e, d.sc = some e → e.wf) ∧ d.semi.text = cSemi) s
theorem toksL_append (a b : List RSt) : toksL (a ++ b) = toksL a ++ toksL b := by simp [toksL]
theorem toksL_cons (a : RSt) (b : List RSt) : toksL (a :: b) = a.toks ++ toksL b := by simp [toksL]
theorem RSt.body_pos (s : RSt) : 1 ≤ s.body.length := by
  rcases s.cases with ⟨kw, name, eq, e, semi, rfl⟩ | ⟨wh, act, sc, semi, rfl⟩
  · simp [RSt.body_let]
  · simp [RSt.body_rule]; omega
theorem RSt.toks_length (s : RSt) : s.toks.length = s.body.length + 1 := by simp [RSt.toks]

/-- What stands in no EXPR. -/
def plainE (t : Txt) : Prop := t ≠ cSemi ∧ t ≠ cLet ∧ t ≠ cWhen ∧ t ≠ cScore ∧ t ≠ cReject
theorem single_plain {t : Txt} (h : singleT t = true) : plainE t := by
  refine ⟨?_, ?_, ?_, ?_, ?_⟩ <;> (intro e; subst e; revert h; decide)
theorem un_plain {t : Txt} (h : unT t = true) : plainE t := by
  refine ⟨?_, ?_, ?_, ?_, ?_⟩ <;> (intro e; subst e; revert h; decide)
theorem bin_plain {t : Txt} (h : 0 < bindsT t) : plainE t := by
  refine ⟨?_, ?_, ?_, ?_, ?_⟩ <;> (intro e; subst e; revert h; decide)
theorem Tr.plain (t : Tr) (h : t.wf) : ∀ x ∈ t.toks, plainE x.text := by
  refine Tr.ind (P := fun t => ∀ x ∈ t.toks, plainE x.text) t h ?_ ?_ ?_ ?_
  · intro a h x hx; simp [Tr.toks_leaf] at hx; subst hx; exact single_plain (Tr.wf_leaf h).1
  · intro op e h ih x hx
    simp only [Tr.toks_un, List.mem_cons] at hx
    rcases hx with rfl | hx
    · exact un_plain (Tr.wf_un h).1
    · exact ih x hx
  · intro op l r h ihl ihr x hx
    simp only [Tr.toks_bin, List.mem_append, List.mem_cons] at hx
    rcases hx with hx | rfl | hx
    · exact ihl x hx
    · exact bin_plain (Tr.wf_bin h).1
    · exact ihr x hx
  · intro o e c h ih x hx
    simp only [Tr.toks_par, List.mem_cons, List.mem_append, List.mem_nil_iff, or_false] at hx
    rcases hx with rfl | hx | rfl
    · rw [(Tr.wf_par h).1]; refine ⟨?_, ?_, ?_, ?_, ?_⟩ <;> decide
    · exact ih x hx
    · rw [(Tr.wf_par h).2.1]; refine ⟨?_, ?_, ?_, ?_, ?_⟩ <;> decide
theorem RSt.body_no_semi (s : RSt) (h : s.wf) : ∀ x ∈ s.body, x.text ≠ cSemi := by
  intro x hx
  rcases s.cases with ⟨kw, name, eq, e, semi, rfl⟩ | ⟨wh, act, sc, semi, rfl⟩
  · simp only [RSt.body_let, List.mem_cons] at hx
    rcases hx with rfl | rfl | rfl | hx
    · rw [h.1]; decide
    · intro e'; have := name_not_semi h.2.1; rw [e'] at this; revert this; decide
    · rw [h.2.2.1]; decide
    · exact (e.plain h.2.2.2.1 x hx).1
  · simp only [RSt.body_rule, List.mem_append, List.mem_cons] at hx
    rcases hx with hx | rfl | hx
    · cases wh with
      | none => simp [whToks] at hx
      | some p =>
        obtain ⟨k, e⟩ := p
        simp only [whToks, List.mem_cons] at hx
        rcases hx with rfl | hx
        · rw [(h.1 x e rfl).1]; decide
        · exact (e.plain (h.1 k e rfl).2 x hx).1
    · rw [h.2.1]; split <;> decide
    · cases sc with
      | none => simp [optToks] at hx
      | some e => exact (e.plain (h.2.2.1 e rfl) x hx).1
theorem RSt.semi_text (s : RSt) (h : s.wf) : s.semi.text = cSemi := by
  rcases s.cases with ⟨kw, name, eq, e, semi, rfl⟩ | ⟨wh, act, sc, semi, rfl⟩
  · exact h.2.2.2.2
  · exact h.2.2.2

def All2 {α β : Type} (R : α → β → Prop) : List α → List β → Prop
  | [], [] => True
  | a :: as, b :: bs => R a b ∧ All2 R as bs
  | _, _ => False
theorem All2.len {α β : Type} {R : α → β → Prop} : ∀ {as : List α} {bs : List β}, All2 R as bs → as.length = bs.length
  | [], [], _ => rfl
  | _ :: _, _ :: _, h => by simp [All2.len h.2]
  | [], _ :: _, h => h.elim
  | _ :: _, [], h => h.elim
theorem All2.mono {α β : Type} {R S : α → β → Prop} (hrs : ∀ a b, R a b → S a b) : ∀ {as : List α} {bs : List β}, All2 R as bs → All2 S as bs
  | [], [], _ => trivial
  | _ :: _, _ :: _, h => ⟨hrs _ _ h.1, All2.mono hrs h.2⟩
  | [], _ :: _, h => h.elim
  | _ :: _, [], h => h.elim
theorem All2.snoc {α β : Type} {R : α → β → Prop} : ∀ {as : List α} {bs : List β} {a : α} {b : β}, All2 R as bs → R a b → All2 R (as ++ [a]) (bs ++ [b])
  | [], [], _, _, _, h => ⟨h, trivial⟩
  | _ :: _, _ :: _, _, _, h, h' => ⟨h.1, All2.snoc h.2 h'⟩
  | [], _ :: _, _, _, h, _ => h.elim
  | _ :: _, [], _, _, h, _ => h.elim
theorem All2.get {α β : Type} {R : α → β → Prop} : ∀ {as : List α} {bs : List β}, All2 R as bs → ∀ (i : Nat) (h : i < as.length) (h' : i < bs.length), R as[i] bs[i]
  | _ :: _, _ :: _, h, 0, _, _ => h.1
  | _ :: _, _ :: _, h, i + 1, h1, h2 => All2.get h.2 i (by simpa using h1) (by simpa using h2)
  | [], _ :: _, h, _, _, _ => h.elim
  | _ :: _, [], h, _, _, _ => h.elim

/-- Where in the statements the token of that number stands. -/
theorem toksL_at (done todo : List RSt) (s : RSt) (j : Nat) (hj : j ≤ s.body.length) (l : List RTok) (hl : l = toksL (done ++ s :: todo)) (h : (toksL done).length + j < l.length) :
    (j < s.body.length → ∃ h', l[(toksL done).length + j] = s.body[j]'h') ∧ (j = s.body.length → l[(toksL done).length + j] = s.semi) := by
  subst hl
  have e : toksL (done ++ s :: todo) = toksL done ++ (s.body ++ ([s.semi] ++ toksL todo)) := by
    rw [toksL_append, toksL_cons, RSt.toks]; simp
  constructor
  · intro hlt
    refine ⟨hlt, ?_⟩
    simp only [e]
    rw [List.getElem_append_right (by omega)]
    simp only [Nat.add_sub_cancel_left]
    rw [List.getElem_append_left hlt]
  · intro he
    simp only [e]
    rw [List.getElem_append_right (by omega)]
    simp only [Nat.add_sub_cancel_left]
    rw [List.getElem_append_right (by omega)]
    simp [he]
end Go.Proofs.YtkbbdfeobcklhaaGreatDoor

set_option linter.unusedVariables false
set_option linter.unusedSimpArgs false
namespace Go.Proofs.YtkbbdfeobcklhaaGreatDoor

def partFold : List (Txt × Nat) → Nat → Txt → Nat
  | [], k, _ => k
  | (n, s) :: r, k, t => partFold r (if n == t then s else k) t
def partOne (ps : List (Txt × Nat)) (t : Txt) : Nat := partFold ps (if t == cOpen || t == cClose then 0 else 1) t
def partsGo (ps : List (Txt × Nat)) : Nat → List RTok → Nat
  | n, [] => n
  | n, t :: r => if n + partOne ps t.text > 150 then 151 else partsGo ps (n + partOne ps t.text) r
theorem partFold_le (ps : List (Txt × Nat)) (hp : ∀ p ∈ ps, p.2 ≤ 151) : ∀ (k : Nat) (t : Txt), k ≤ 151 → partFold ps k t ≤ 151 := by
  induction ps with
  | nil => intro k t h; exact h
  | cons p r ih =>
    intro k t h
    obtain ⟨n, s⟩ := p
    simp only [partFold]
    refine ih (fun q hq => hp q (by simp [hq])) _ _ ?_
    have := hp (n, s) (by simp)
    split <;> simp_all
theorem partOne_le (ps : List (Txt × Nat)) (hp : ∀ p ∈ ps, p.2 ≤ 151) (t : Txt) : partOne ps t ≤ 151 := by
  unfold partOne
  refine partFold_le ps hp _ t ?_
  split <;> omega
theorem partsGo_le (ps : List (Txt × Nat)) : ∀ (l : List RTok) (n : Nat), n ≤ 150 → partsGo ps n l ≤ 151
  | [], n, h => by simp only [partsGo]; omega
  | t :: r, n, h => by
    simp only [partsGo]
    split
    · omega
    · exact partsGo_le ps r _ (by omega)
/-- The names and sizes of the lets, one by one. -/
def sizesGo : List (Txt × Nat) → List RSt → List (Txt × Nat)
  | ps, [] => ps
  | ps, s :: r => sizesGo (Sum.elim (fun d : LetD => ps ++ [(d.name.text, partsGo ps 0 d.e.toks)]) (fun _ : RuleD => ps) s) r
def rulePartsGo (ps : List (Txt × Nat)) : List RSt → Nat
  | [] => 0
  | s :: r => Sum.elim (fun _ : LetD => 0) (fun d : RuleD => partsGo ps 0 (optToks (d.wh.map Prod.snd)) + partsGo ps 0 (optToks d.sc)) s + rulePartsGo ps r
theorem sizesGo_let (ps : List (Txt × Nat)) (kw name eq : RTok) (e : Tr) (semi : RTok) (r : List RSt) : sizesGo ps (.letS kw name eq e semi :: r) = sizesGo (ps ++ [(name.text, partsGo ps 0 e.toks)]) r := rfl
theorem rulePartsGo_rule (ps : List (Txt × Nat)) (wh : Option (RTok × Tr)) (act : RTok) (sc : Option Tr) (semi : RTok) (r : List RSt) : rulePartsGo ps (.rule wh act sc semi :: r) = partsGo ps 0 (optToks (wh.map Prod.snd)) + partsGo ps 0 (optToks sc) + rulePartsGo ps r := rfl
def bigT (lets rules : List RSt) : Bool := decide (rulePartsGo (sizesGo [] lets) rules > 150)
end Go.Proofs.YtkbbdfeobcklhaaGreatDoor

set_option linter.unusedVariables false
set_option linter.unusedSimpArgs false
namespace Go.Proofs.YtkbbdfeobcklhaaGreatDoor

def letsK : List (Txt × Nat) → List RSt → Except Nat (List (Txt × Nat))
  | c, [] => .ok c
  | c, s :: r => Sum.elim (fun d : LetD => match kindT c d.e with
      | .error p => .error p
      | .ok k => letsK (c ++ [(d.name.text, k)]) r) (fun _ : RuleD => letsK c r) s
def firstAt (t : Tr) : Nat := ((t.toks[0]?).map RTok.at').getD 0
def exprK (c : List (Txt × Nat)) (want : Nat) : Option Tr → Option Nat
  | none => none
  | some e => match kindT c e with
    | .error p => some p
    | .ok k => if k = want then none else some (firstAt e)
def rulesK (c : List (Txt × Nat)) : List RSt → Option Nat
  | [] => none
  | s :: r => Sum.elim (fun _ : LetD => rulesK c r) (fun d : RuleD => match exprK c 2 (d.wh.map Prod.snd) with
      | some p => some p
      | none => match exprK c 1 d.sc with
        | some p => some p
        | none => rulesK c r) s
theorem letsK_let (c : List (Txt × Nat)) (kw name eq : RTok) (e : Tr) (semi : RTok) (r : List RSt) : letsK c (.letS kw name eq e semi :: r) = match kindT c e with
    | .error p => .error p
    | .ok k => letsK (c ++ [(name.text, k)]) r := rfl
theorem rulesK_rule (c : List (Txt × Nat)) (wh : Option (RTok × Tr)) (act : RTok) (sc : Option Tr) (semi : RTok) (r : List RSt) : rulesK c (.rule wh act sc semi :: r) = match exprK c 2 (wh.map Prod.snd) with
    | some p => some p
    | none => match exprK c 1 sc with
      | some p => some p
      | none => rulesK c r := rfl
def wrongT (lets rules : List RSt) : Option Nat := match letsK [] lets with
  | .error p => some p
  | .ok c => rulesK c rules
theorem letsK_err {c : List (Txt × Nat)} {kw name eq : RTok} {e : Tr} {semi : RTok} {r : List RSt} {p : Nat} (h : kindT c e = .error p) : letsK c (.letS kw name eq e semi :: r) = .error p := by simp only [letsK_let, h]
theorem letsK_ok {c : List (Txt × Nat)} {kw name eq : RTok} {e : Tr} {semi : RTok} {r : List RSt} {k : Nat} (h : kindT c e = .ok k) : letsK c (.letS kw name eq e semi :: r) = letsK (c ++ [(name.text, k)]) r := by simp only [letsK_let, h]
theorem wrongT_err {L R : List RSt} {p : Nat} (h : letsK [] L = .error p) : wrongT L R = some p := by simp only [wrongT, h]
theorem wrongT_ok {L R : List RSt} {c : List (Txt × Nat)} (h : letsK [] L = .ok c) : wrongT L R = rulesK c R := by simp only [wrongT, h]
theorem rulesK_w {c : List (Txt × Nat)} {wh : Option (RTok × Tr)} {act : RTok} {sc : Option Tr} {semi : RTok} {r : List RSt} {p : Nat} (h : exprK c 2 (wh.map Prod.snd) = some p) : rulesK c (.rule wh act sc semi :: r) = some p := by simp only [rulesK_rule, h]
theorem rulesK_s {c : List (Txt × Nat)} {wh : Option (RTok × Tr)} {act : RTok} {sc : Option Tr} {semi : RTok} {r : List RSt} {p : Nat} (h : exprK c 2 (wh.map Prod.snd) = none) (h2 : exprK c 1 sc = some p) : rulesK c (.rule wh act sc semi :: r) = some p := by simp only [rulesK_rule, h, h2]
theorem rulesK_n {c : List (Txt × Nat)} {wh : Option (RTok × Tr)} {act : RTok} {sc : Option Tr} {semi : RTok} {r : List RSt} (h : exprK c 2 (wh.map Prod.snd) = none) (h2 : exprK c 1 sc = none) : rulesK c (.rule wh act sc semi :: r) = rulesK c r := by simp only [rulesK_rule, h, h2]
end Go.Proofs.YtkbbdfeobcklhaaGreatDoor
