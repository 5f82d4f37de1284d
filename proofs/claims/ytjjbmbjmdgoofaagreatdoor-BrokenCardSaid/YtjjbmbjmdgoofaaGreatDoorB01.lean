/-
  A policy as a list of statements whose expressions are trees: its tokens, and where each statement ends.
-/
import Derived.Test.YtjjbmbjmdgoofaaGreatDoorB00
set_option linter.unusedVariables false
set_option linter.unusedSimpArgs false
namespace Go.Proofs.YtjjbmbjmdgoofaaGreatDoor
structure LetD where
  kw : RTok
  name : RTok
  eq : RTok
  e : Tr
  semi : RTok
structure RuleD where
  wh : Option (RTok × Tr)
  act : RTok
  sc : Option Tr
  semi : RTok
def RSt : Type := Sum LetD RuleD
def RSt.letS (kw name eq : RTok) (e : Tr) (semi : RTok) : RSt := Sum.inl ⟨kw, name, eq, e, semi⟩
def RSt.rule (wh : Option (RTok × Tr)) (act : RTok) (sc : Option Tr) (semi : RTok) : RSt := Sum.inr ⟨wh, act, sc, semi⟩
theorem RSt.cases (s : RSt) : (∃ kw name eq e semi, s = .letS kw name eq e semi) ∨ (∃ wh act sc semi, s = .rule wh act sc semi) := by
  rcases s with ⟨kw, name, eq, e, semi⟩ | ⟨wh, act, sc, semi⟩
  · exact .inl ⟨kw, name, eq, e, semi, rfl⟩
  · exact .inr ⟨wh, act, sc, semi, rfl⟩
def optToks : Option Tr → List RTok
  | none => []
  | some e => e.toks
def whToks : Option (RTok × Tr) → List RTok
  | none => []
  | some (k, e) => k :: e.toks
def RSt.body (s : RSt) : List RTok := Sum.elim (fun d : LetD => d.kw :: d.name :: d.eq :: d.e.toks) (fun d : RuleD => whToks d.wh ++ d.act :: optToks d.sc) s
def RSt.semi (s : RSt) : RTok := Sum.elim LetD.semi RuleD.semi s
theorem RSt.body_let (kw name eq : RTok) (e : Tr) (semi : RTok) : (RSt.letS kw name eq e semi).body = kw :: name :: eq :: e.toks := rfl
theorem RSt.body_rule (wh : Option (RTok × Tr)) (act : RTok) (sc : Option Tr) (semi : RTok) : (RSt.rule wh act sc semi).body = whToks wh ++ act :: optToks sc := rfl
def RSt.toks (s : RSt) : List RTok := s.body ++ [s.semi]
def toksL (l : List RSt) : List RTok := l.flatMap RSt.toks
def RSt.isLet (s : RSt) : Bool := Sum.elim (fun _ : LetD => true) (fun _ : RuleD => false) s
def RSt.wf (s : RSt) : Prop := Sum.elim (fun d : LetD => d.kw.text = cLet ∧ nameT d.name.text = true ∧ d.eq.text = cEq ∧ d.e.wf ∧ d.semi.text = cSemi) (fun d : RuleD => (∀ k e, d.wh = some (k, e) → k.text = cWhen ∧ e.wf) ∧ d.act.text = (if d.sc.isSome then cScore else cReject) ∧ (∀ e, d.sc = some e → e.wf) ∧ d.semi.text = cSemi) s
theorem toksL_append (a b : List RSt) : toksL (a ++ b) = toksL a ++ toksL b := by simp [toksL]
theorem toksL_cons (a : RSt) (b : List RSt) : toksL (a :: b) = a.toks ++ toksL b := by simp [toksL]
theorem RSt.toks_length (s : RSt) : s.toks.length = s.body.length + 1 := by simp [RSt.toks]
def plainE (t : Txt) : Prop := t ≠ cSemi ∧ t ≠ cLet ∧ t ≠ cWhen ∧ t ≠ cScore ∧ t ≠ cReject
theorem single_plain {t : Txt} (h : singleT t = true) : plainE t := by
  refine ⟨?_, ?_, ?_, ?_, ?_⟩ <;> (intro e; subst e; revert h; decide)
theorem un_plain {t : Txt} (h : unT t = true) : plainE t := by
  refine ⟨?_, ?_, ?_, ?_, ?_⟩ <;> (intro e; subst e; revert h; decide)
theorem bin_plain {t : Txt} (h : 0 < bindsT t) : plainE t := by
  refine ⟨?_, ?_, ?_, ?_, ?_⟩ <;> (intro e; subst e; revert h; decide)
theorem Tr.plain (t : Tr) (h : t.wf) : ∀ x ∈ t.toks, plainE x.text := by
  refine Tr.ind (P := fun t => ∀ x ∈ t.toks, plainE x.text) t h ?_ ?_ ?_ ?_
  · intro a h x hx; simp [Tr.toks_leaf] at hx; subst hx; exact single_plain (Tr.wf_leaf h).1
  · intro op e h ih x hx
    simp only [Tr.toks_un, List.mem_cons] at hx
    rcases hx with rfl | hx
    · exact un_plain (Tr.wf_un h).1
    · exact ih x hx
  · intro op l r h ihl ihr x hx
    simp only [Tr.toks_bin, List.mem_append, List.mem_cons] at hx
    rcases hx with hx | rfl | hx
    · exact ihl x hx
    · exact bin_plain (Tr.wf_bin h).1
    · exact ihr x hx
  · intro o e c h ih x hx
    simp only [Tr.toks_par, List.mem_cons, List.mem_append, List.mem_nil_iff, or_false] at hx
    rcases hx with rfl | hx | rfl
    · rw [(Tr.wf_par h).1]; refine ⟨?_, ?_, ?_, ?_, ?_⟩ <;> decide
    · exact ih x hx
    · rw [(Tr.wf_par h).2.1]; refine ⟨?_, ?_, ?_, ?_, ?_⟩ <;> decide
def All2 {α β : Type} (R : α → β → Prop) : List α → List β → Prop
  | [], [] => True
  | a :: as, b :: bs => R a b ∧ All2 R as bs
  | _, _ => False
theorem All2.mono {α β : Type} {R S : α → β → Prop} (hrs : ∀ a b, R a b → S a b) : ∀ {as : List α} {bs : List β}, All2 R as bs → All2 S as bs
  | [], [], _ => trivial
  | _ :: _, _ :: _, h => ⟨hrs _ _ h.1, All2.mono hrs h.2⟩
  | [], _ :: _, h => h.elim
  | _ :: _, [], h => h.elim
end Go.Proofs.YtjjbmbjmdgoofaaGreatDoor
namespace Go.Proofs.YtjjbmbjmdgoofaaGreatDoor
def partFold : List (Txt × Nat) → Nat → Txt → Nat
  | [], k, _ => k
  | (n, s) :: r, k, t => partFold r (if n == t then s else k) t
def partOne (ps : List (Txt × Nat)) (t : Txt) : Nat := partFold ps (if t == cOpen || t == cClose then 0 else 1) t
def partsGo (ps : List (Txt × Nat)) : Nat → List RTok → Nat
  | n, [] => n
  | n, t :: r => if n + partOne ps t.text > 150 then 151 else partsGo ps (n + partOne ps t.text) r
def sizesGo : List (Txt × Nat) → List RSt → List (Txt × Nat)
  | ps, [] => ps
  | ps, s :: r => sizesGo (Sum.elim (fun d : LetD => ps ++ [(d.name.text, partsGo ps 0 d.e.toks)]) (fun _ : RuleD => ps) s) r
def rulePartsGo (ps : List (Txt × Nat)) : List RSt → Nat
  | [] => 0
  | s :: r => Sum.elim (fun _ : LetD => 0) (fun d : RuleD => partsGo ps 0 (optToks (d.wh.map Prod.snd)) + partsGo ps 0 (optToks d.sc)) s + rulePartsGo ps r
theorem sizesGo_let (ps : List (Txt × Nat)) (kw name eq : RTok) (e : Tr) (semi : RTok) (r : List RSt) : sizesGo ps (.letS kw name eq e semi :: r) = sizesGo (ps ++ [(name.text, partsGo ps 0 e.toks)]) r := rfl
theorem rulePartsGo_rule (ps : List (Txt × Nat)) (wh : Option (RTok × Tr)) (act : RTok) (sc : Option Tr) (semi : RTok) (r : List RSt) : rulePartsGo ps (.rule wh act sc semi :: r) = partsGo ps 0 (optToks (wh.map Prod.snd)) + partsGo ps 0 (optToks sc) + rulePartsGo ps r := rfl
def bigT (lets rules : List RSt) : Bool := decide (rulePartsGo (sizesGo [] lets) rules > 150)
end Go.Proofs.YtjjbmbjmdgoofaaGreatDoor
namespace Go.Proofs.YtjjbmbjmdgoofaaGreatDoor
def letsK : List (Txt × Nat) → List RSt → Except Nat (List (Txt × Nat))
  | c, [] => .ok c
  | c, s :: r => Sum.elim (fun d : LetD => match kindT c d.e with
      | .error p => .error p
      | .ok k => letsK (c ++ [(d.name.text, k)]) r) (fun _ : RuleD => letsK c r) s
def firstAt (t : Tr) : Nat := ((t.toks[0]?).map RTok.at').getD 0
def exprK (c : List (Txt × Nat)) (want : Nat) : Option Tr → Option Nat
  | none => none
  | some e => match kindT c e with
    | .error p => some p
    | .ok k => if k = want then none else some (firstAt e)
def rulesK (c : List (Txt × Nat)) : List RSt → Option Nat
  | [] => none
  | s :: r => Sum.elim (fun _ : LetD => rulesK c r) (fun d : RuleD => match exprK c 2 (d.wh.map Prod.snd) with
      | some p => some p
      | none => match exprK c 1 d.sc with
        | some p => some p
        | none => rulesK c r) s
theorem letsK_let (c : List (Txt × Nat)) (kw name eq : RTok) (e : Tr) (semi : RTok) (r : List RSt) : letsK c (.letS kw name eq e semi :: r) = match kindT c e with
    | .error p => .error p
    | .ok k => letsK (c ++ [(name.text, k)]) r := rfl
theorem rulesK_rule (c : List (Txt × Nat)) (wh : Option (RTok × Tr)) (act : RTok) (sc : Option Tr) (semi : RTok) (r : List RSt) : rulesK c (.rule wh act sc semi :: r) = match exprK c 2 (wh.map Prod.snd) with
    | some p => some p
    | none => match exprK c 1 sc with
      | some p => some p
      | none => rulesK c r := rfl
def wrongT (lets rules : List RSt) : Option Nat := match letsK [] lets with
  | .error p => some p
  | .ok c => rulesK c rules
theorem letsK_ok {c : List (Txt × Nat)} {kw name eq : RTok} {e : Tr} {semi : RTok} {r : List RSt} {k : Nat} (h : kindT c e = .ok k) : letsK c (.letS kw name eq e semi :: r) = letsK (c ++ [(name.text, k)]) r := by simp only [letsK_let, h]
theorem wrongT_ok {L R : List RSt} {c : List (Txt × Nat)} (h : letsK [] L = .ok c) : wrongT L R = rulesK c R := by simp only [wrongT, h]
theorem rulesK_n {c : List (Txt × Nat)} {wh : Option (RTok × Tr)} {act : RTok} {sc : Option Tr} {semi : RTok} {r : List RSt} (h : exprK c 2 (wh.map Prod.snd) = none) (h2 : exprK c 1 sc = none) : rulesK c (.rule wh act sc semi :: r) = rulesK c r := by simp only [rulesK_rule, h, h2]
end Go.Proofs.YtjjbmbjmdgoofaaGreatDoor
namespace Go.Proofs.YtjjbmbjmdgoofaaGreatDoor
def tWords : List Txt := [[108, 101, 116], [119, 104, 101, 110], [115, 99, 111, 114, 101], [114, 101, 106, 101, 99, 116], [97, 110, 100], [111, 114], [110, 111, 116], [116, 114, 117, 101], [102, 97, 108, 115, 101], [100, 114, 121], [99, 111, 108, 100], [115, 97, 102, 101], [115, 105, 122, 101], [115, 112, 101, 101, 100], [110, 101, 101, 100], [122, 111, 110, 101], [99, 97, 112], [117, 115, 101, 100], [104, 97, 115]]
def digitRowT (t : Txt) : Nat := (t.takeWhile isDig).length
def letterRowT (t : Txt) : Nat := (t.takeWhile isLet).length
def wordGo : List Txt → Nat → Txt → Nat
  | [], _, _ => 2
  | x :: r, i, t => if x == t then 3 + i else wordGo r (i + 1) t
def wordKindT (t : Txt) : Nat := wordGo tWords 0 t
def signGo : List Txt → Nat → Nat → Nat → Txt → Nat × Nat
  | [], _, k, n, _ => (k, n)
  | x :: r, i, k, n, t => if n < x.length ∧ x.length ≤ t.length ∧ (t.take x.length == x) = true then signGo r (i + 1) (22 + i) x.length t else signGo r (i + 1) k n t
def firstSignT (t : Txt) : Nat × Nat := signGo tSign 0 0 0 t
def firstT (t : Txt) : Nat × Nat :=
  if 18 < digitRowT t then (0, 0)
  else if 0 < digitRowT t then (1, digitRowT t)
  else if 8 < letterRowT t then (0, 0)
  else if 0 < letterRowT t then (wordKindT (t.take (letterRowT t)), letterRowT t)
  else firstSignT t
structure PTok where
  kind : Nat
  place : Nat
  text : Txt
theorem takeWhile_length_le (p : UInt8 → Bool) (t : Txt) : (t.takeWhile p).length ≤ t.length := (List.takeWhile_sublist p).length_le
theorem signGo_le : ∀ (l : List Txt) (i k n : Nat) (t : Txt), n ≤ t.length → (signGo l i k n t).2 ≤ t.length
  | [], _, _, _, _, h => h
  | x :: r, i, k, n, t, h => by
    simp only [signGo]
    split
    · rename_i hc; exact signGo_le r _ _ _ t hc.2.1
    · exact signGo_le r _ _ _ t h
theorem firstT_le (t : Txt) : (firstT t).2 ≤ t.length := by
  unfold firstT
  split
  · exact Nat.zero_le _
  · split
    · exact takeWhile_length_le _ _
    · split
      · exact Nat.zero_le _
      · split
        · exact takeWhile_length_le _ _
        · exact signGo_le _ _ _ _ t (Nat.zero_le _)
def toksPF : Nat → Txt → Nat → Except Nat (List PTok)
  | _, [], pos => .ok [⟨0, pos, []⟩]
  | 0, _ :: _, _ => .ok []
  | n + 1, c :: r, pos =>
    if blankC c then toksPF n r (pos + 1)
    else if (firstT (c :: r)).2 = 0 then .error pos
    else match toksPF n ((c :: r).drop (firstT (c :: r)).2) (pos + (firstT (c :: r)).2) with
      | .ok l => .ok (⟨(firstT (c :: r)).1, pos, (c :: r).take (firstT (c :: r)).2⟩ :: l)
      | .error e => .error e
def toksP (s : Txt) (pos : Nat) : Except Nat (List PTok) := toksPF s.length s pos
theorem toksPF_more : ∀ (n m : Nat) (s : Txt) (pos : Nat), s.length ≤ n → s.length ≤ m → toksPF n s pos = toksPF m s pos
  | 0, 0, [], _, _, _ => rfl
  | 0, _ + 1, [], _, _, _ => rfl
  | _ + 1, 0, [], _, _, _ => rfl
  | _ + 1, _ + 1, [], _, _, _ => rfl
  | 0, _, c :: r, _, h, _ => by simp at h
  | _ + 1, 0, c :: r, _, _, h => by simp at h
  | n + 1, m + 1, c :: r, pos, h1, h2 => by
    have h1' : r.length ≤ n := by simpa using h1
    have h2' : r.length ≤ m := by simpa using h2
    simp only [toksPF]
    by_cases h0 : (firstT (c :: r)).2 = 0
    · rw [if_pos h0, if_pos h0, toksPF_more n m r (pos + 1) h1' h2']
    · rw [if_neg h0, if_neg h0, toksPF_more n m r (pos + 1) h1' h2', toksPF_more n m ((c :: r).drop (firstT (c :: r)).2) (pos + (firstT (c :: r)).2) (by rw [List.length_drop, List.length_cons]; omega) (by rw [List.length_drop, List.length_cons]; omega)]
theorem toksP_nil (pos : Nat) : toksP [] pos = .ok [⟨0, pos, []⟩] := rfl
theorem toksP_cons (c : UInt8) (r : Txt) (pos : Nat) : toksP (c :: r) pos = if blankC c then toksP r (pos + 1)
    else if (firstT (c :: r)).2 = 0 then .error pos
    else match toksP ((c :: r).drop (firstT (c :: r)).2) (pos + (firstT (c :: r)).2) with
      | .ok l => .ok (⟨(firstT (c :: r)).1, pos, (c :: r).take (firstT (c :: r)).2⟩ :: l)
      | .error e => .error e := by
  unfold toksP
  rw [List.length_cons, toksPF]
  by_cases h0 : (firstT (c :: r)).2 = 0
  · rw [if_pos h0, if_pos h0]
  · rw [if_neg h0, if_neg h0, toksPF_more r.length ((c :: r).drop (firstT (c :: r)).2).length _ _ (by rw [List.length_drop, List.length_cons]; omega) (Nat.le_refl _)]
end Go.Proofs.YtjjbmbjmdgoofaaGreatDoor
namespace Go.Proofs.YtjjbmbjmdgoofaaGreatDoor
theorem same_dig {a b : UInt8} (h : isDig a = true) : sameC a b = isDig b := by
  unfold sameC
  have h1 : isLet a = false := by
    unfold isDig at h; unfold isLet
    simp only [Bool.and_eq_true, decide_eq_true_eq, UInt8.le_iff_toNat_le] at h
    simp [UInt8.le_iff_toNat_le, UInt8.lt_iff_toNat_lt]
    have := h.2
    intro h'
    simp at this h'
    omega
  have h2 : (a == 60) = false ∧ (a == 33) = false := by
    constructor
    · cases h3 : (a == 60)
      · rfl
      · have : a = 60 := by simpa using h3
        subst this; revert h; decide
    · cases h3 : (a == 33)
      · rfl
      · have : a = 33 := by simpa using h3
        subst this; revert h; decide
  simp [h, h1, h2.1, h2.2]
theorem same_let {a b : UInt8} (h : isLet a = true) : sameC a b = isLet b := by
  unfold sameC
  have h1 : isDig a = false := by
    unfold isLet at h; unfold isDig
    simp only [Bool.and_eq_true, decide_eq_true_eq, UInt8.le_iff_toNat_le] at h
    simp [UInt8.le_iff_toNat_le, UInt8.lt_iff_toNat_lt]
    have := h.1
    intro h'
    simp at this h' ⊢
    omega
  have h2 : (a == 60) = false ∧ (a == 33) = false := by
    constructor
    · cases h3 : (a == 60)
      · rfl
      · have : a = 60 := by simpa using h3
        subst this; revert h; decide
    · cases h3 : (a == 33)
      · rfl
      · have : a = 33 := by simpa using h3
        subst this; revert h; decide
  simp [h, h1, h2.1, h2.2]
theorem run_dig : ∀ (r : Txt) (c : UInt8), isDig c = true → runLen (c :: r) = digitRowT (c :: r)
  | [], c, h => by simp [runLen, digitRowT, List.takeWhile, h]
  | d :: r, c, h => by
    have hs := same_dig (b := d) h
    cases hd : isDig d
    · simp [runLen, hs, hd, digitRowT, List.takeWhile, h]
    · have := run_dig r d hd
      simp only [runLen, hs, hd, if_true, this, digitRowT, List.takeWhile, h, List.length_cons]
theorem run_let : ∀ (r : Txt) (c : UInt8), isLet c = true → runLen (c :: r) = letterRowT (c :: r)
  | [], c, h => by simp [runLen, letterRowT, List.takeWhile, h]
  | d :: r, c, h => by
    have hs := same_let (b := d) h
    cases hd : isLet d
    · simp [runLen, hs, hd, letterRowT, List.takeWhile, h]
    · have := run_let r d hd
      simp only [runLen, hs, hd, if_true, this, letterRowT, List.takeWhile, h, List.length_cons]
theorem run_eq (r : Txt) : runLen (61 :: r) = 1 := by
  cases r with
  | nil => rfl
  | cons d r => simp [runLen, sameC, isDig, isLet]
def signKind : List Txt → Nat → Txt → Nat
  | [], _, _ => 0
  | x :: r, i, t => if x == t then 22 + i else signKind r (i + 1) t
def kindP (t : Txt) : Nat := if isDig (headC t) then 1 else if isLet (headC t) then wordKindT t else signKind tSign 0 t
theorem row_no (c : UInt8) (r : Txt) (h1 : isDig c = false) : digitRowT (c :: r) = 0 := by simp [digitRowT, List.takeWhile, h1]
theorem row_no2 (c : UInt8) (r : Txt) (h1 : isLet c = false) : letterRowT (c :: r) = 0 := by simp [letterRowT, List.takeWhile, h1]
theorem sign_cases (c : UInt8) : c = 59 ∨ c = 61 ∨ c = 33 ∨ c = 60 ∨ c = 43 ∨ c = 45 ∨ c = 42 ∨ c = 47 ∨ c = 37 ∨ c = 40 ∨ c = 41 ∨ (c ≠ 59 ∧ c ≠ 61 ∧ c ≠ 33 ∧ c ≠ 60 ∧ c ≠ 43 ∧ c ≠ 45 ∧ c ≠ 42 ∧ c ≠ 47 ∧ c ≠ 37 ∧ c ≠ 40 ∧ c ≠ 41) := by
  by_cases h1 : c = 59
  · simp [h1]
  by_cases h2 : c = 61
  · simp [h2]
  by_cases h3 : c = 33
  · simp [h3]
  by_cases h4 : c = 60
  · simp [h4]
  by_cases h5 : c = 43
  · simp [h5]
  by_cases h6 : c = 45
  · simp [h6]
  by_cases h7 : c = 42
  · simp [h7]
  by_cases h8 : c = 47
  · simp [h8]
  by_cases h9 : c = 37
  · simp [h9]
  by_cases h10 : c = 40
  · simp [h10]
  by_cases h11 : c = 41
  · simp [h11]
  simp [h1, h2, h3, h4, h5, h6, h7, h8, h9, h10, h11]
theorem sign_one (c : UInt8) (r : Txt) (h1 : isDig c = false) (h2 : isLet c = false) :
    (signT ((c :: r).take (runLen (c :: r))) = true → firstSignT (c :: r) = (signKind tSign 0 ((c :: r).take (runLen (c :: r))), runLen (c :: r))) ∧
    (signT ((c :: r).take (runLen (c :: r))) = false → (firstSignT (c :: r)).2 = 0) := by
  have hrun : runLen (c :: r) = if (c = 60 ∨ c = 33) ∧ r.head? = some 61 then 2 else 1 := by
    cases r with
    | nil => simp [runLen]
    | cons d r =>
      have hs : sameC c d = ((c == 60 || c == 33) && d == 61) := by simp [sameC, h1, h2]
      by_cases hd : d = 61
      · subst hd
        have := run_eq r
        simp only [runLen, hs, this]
        by_cases hc : c = 60 ∨ c = 33
        · rcases hc with rfl | rfl <;> simp
        · simp only [not_or] at hc
          simp [hc.1, hc.2]
      · simp [runLen, hs, hd]
  rw [hrun]
  rcases sign_cases c with rfl | rfl | rfl | rfl | rfl | rfl | rfl | rfl | rfl | rfl | rfl | ⟨n1, n2, n3, n4, n5, n6, n7, n8, n9, n10, n11⟩
  all_goals
    cases r with
    | nil => simp_all [firstSignT, signGo, tSign, signT, signKind]
    | cons d r =>
      by_cases hd : d = 61
      · subst hd
        simp_all [firstSignT, signGo, tSign, signT, signKind]
      · simp_all [firstSignT, signGo, tSign, signT, signKind]
theorem head_take (c : UInt8) (r : Txt) (n : Nat) (h : 1 ≤ n) : headC ((c :: r).take n) = c := by
  cases n with
  | zero => omega
  | succ n => rfl
theorem first_tok (c : UInt8) (r : Txt) : (mayT ((c :: r).take (runLen (c :: r))) = true → firstT (c :: r) = (kindP ((c :: r).take (runLen (c :: r))), runLen (c :: r))) ∧
    (mayT ((c :: r).take (runLen (c :: r))) = false → (firstT (c :: r)).2 = 0) := by
  have hp := runLen_pos c r
  have hle := runLen_le (c :: r)
  have hlen : ((c :: r).take (runLen (c :: r))).length = runLen (c :: r) := by rw [List.length_take]; omega
  unfold mayT kindP
  rw [head_take c r _ hp, hlen]
  cases hd : isDig c
  · have h0 := row_no c r hd
    cases hl : isLet c
    · have h1 := row_no2 c r hl
      have hs := sign_one c r hd hl
      simp only [firstT, h0, h1]
      simp
      exact ⟨fun h => hs.1 h, fun h => hs.2 h⟩
    · have hr := run_let r c hl
      rw [hr] at hp ⊢
      simp only [firstT, h0]
      constructor
      · intro h
        have : letterRowT (c :: r) ≤ 8 := by simpa using h
        rw [if_neg (by omega), if_neg (by omega), if_neg (by omega), if_pos (by omega)]
        simp
      · intro h
        have : 8 < letterRowT (c :: r) := by simpa using h
        rw [if_neg (by omega), if_neg (by omega), if_pos (by omega)]
  · have hr := run_dig r c hd
    rw [hr] at hp ⊢
    simp only [firstT]
    constructor
    · intro h
      have : digitRowT (c :: r) ≤ 18 := by simpa using h
      rw [if_neg (by omega), if_pos (by omega)]
      simp
    · intro h
      have : 18 < digitRowT (c :: r) := by simpa using h
      rw [if_pos (by omega)]
def toP (t : RTok) : PTok := ⟨kindP t.text, t.at', t.text⟩
def outP (p : Nat) : Except Nat (List RTok) → Except Nat (List PTok)
  | .ok l => .ok (l.map toP ++ [⟨0, p, []⟩])
  | .error e => .error e
theorem toks_same : ∀ (n : Nat) (s : Txt) (p : Nat), s.length ≤ n → toksP s p = outP (p + s.length) (toksR s p)
  | n, [], p, _ => by rw [toksP_nil, toksR_nil]; rfl
  | 0, c :: r, p, h => by simp at h
  | n + 1, c :: r, p, h => by
    have hp := runLen_pos c r
    have hle := runLen_le (c :: r)
    have hf := first_tok c r
    rw [toksP_cons, toksR_cons]
    by_cases hb : blankC c = true
    · rw [if_pos hb, if_pos hb, toks_same n r (p + 1) (by simpa using h)]
      simp only [List.length_cons]
      congr 1; omega
    · rw [if_neg hb, if_neg hb]
      cases hm : mayT ((c :: r).take (runLen (c :: r)))
      · rw [if_pos (hf.2 hm), if_neg (by simp)]
        rfl
      · have hf1 := hf.1 hm
        rw [if_neg (by rw [hf1]; simp only; omega), if_pos rfl, hf1]
        simp only
        rw [toks_same n ((c :: r).drop (runLen (c :: r))) (p + runLen (c :: r)) (by simp at h ⊢; omega)]
        rw [show p + runLen (c :: r) + ((c :: r).drop (runLen (c :: r))).length = p + (c :: r).length by rw [List.length_drop]; omega]
        cases toksR ((c :: r).drop (runLen (c :: r))) (p + runLen (c :: r)) <;> rfl
end Go.Proofs.YtjjbmbjmdgoofaaGreatDoor
