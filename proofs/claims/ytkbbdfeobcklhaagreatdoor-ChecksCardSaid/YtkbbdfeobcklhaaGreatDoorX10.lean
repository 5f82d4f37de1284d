/-
  What the program keeps of a policy that was read: its nodes, lets and rules; the names among them: plain.
-/
import Derived.Test.YtkbbdfeobcklhaaGreatDoorX09
set_option linter.unusedVariables false
set_option linter.unusedSimpArgs false
namespace Go.Proofs.YtkbbdfeobcklhaaGreatDoor
open Go.Deep

structure PExp where
  place : Nat
  fr : Nat
  behind : Nat
structure PLet where
  name : RTok
  val : PExp
structure PRule where
  hw : Bool
  when : PExp
  hs : Bool
  score : PExp
def noExp : PExp := ⟨0, 0, 0⟩
def layE (b : Nat) (t : Tr) : PExp := ⟨firstAt t, b, b + t.num⟩
def optNum : Option Tr → Nat
  | none => 0
  | some t => t.num
def optNodes (b : Nat) : Option Tr → List PNode
  | none => []
  | some t => t.flat b
def optE (b : Nat) : Option Tr → PExp
  | none => noExp
  | some t => layE b t
def RSt.num (s : RSt) : Nat := Sum.elim (fun d : LetD => d.e.num) (fun d : RuleD => optNum (d.wh.map Prod.snd) + optNum d.sc) s
def RSt.nodes (b : Nat) (s : RSt) : List PNode := Sum.elim (fun d : LetD => d.e.flat b) (fun d : RuleD => optNodes b (d.wh.map Prod.snd) ++ optNodes (b + optNum (d.wh.map Prod.snd)) d.sc) s
def RSt.lets (b : Nat) (s : RSt) : List PLet := Sum.elim (fun d : LetD => [⟨d.name, layE b d.e⟩]) (fun _ : RuleD => []) s
def RSt.rules (b : Nat) (s : RSt) : List PRule := Sum.elim (fun _ : LetD => []) (fun d : RuleD => [⟨d.wh.isSome, optE b (d.wh.map Prod.snd), d.sc.isSome, optE (b + optNum (d.wh.map Prod.snd)) d.sc⟩]) s
def numS : List RSt → Nat
  | [] => 0
  | s :: r => s.num + numS r
def nodesS : Nat → List RSt → List PNode
  | _, [] => []
  | b, s :: r => s.nodes b ++ nodesS (b + s.num) r
def letsS : Nat → List RSt → List PLet
  | _, [] => []
  | b, s :: r => s.lets b ++ letsS (b + s.num) r
def rulesS : Nat → List RSt → List PRule
  | _, [] => []
  | b, s :: r => s.rules b ++ rulesS (b + s.num) r
theorem numS_append : ∀ (a b : List RSt), numS (a ++ b) = numS a + numS b
  | [], b => by simp [numS]
  | s :: r, b => by simp only [List.cons_append, numS, numS_append r b]; omega
theorem nodesS_append : ∀ (a b : List RSt) (k : Nat), nodesS k (a ++ b) = nodesS k a ++ nodesS (k + numS a) b
  | [], b, k => by simp [nodesS, numS]
  | s :: r, b, k => by simp only [List.cons_append, nodesS, numS, nodesS_append r b, List.append_assoc, Nat.add_assoc]
theorem letsS_append : ∀ (a b : List RSt) (k : Nat), letsS k (a ++ b) = letsS k a ++ letsS (k + numS a) b
  | [], b, k => by simp [letsS, numS]
  | s :: r, b, k => by simp only [List.cons_append, letsS, numS, letsS_append r b, List.append_assoc, Nat.add_assoc]
theorem rulesS_append : ∀ (a b : List RSt) (k : Nat), rulesS k (a ++ b) = rulesS k a ++ rulesS (k + numS a) b
  | [], b, k => by simp [rulesS, numS]
  | s :: r, b, k => by simp only [List.cons_append, rulesS, numS, rulesS_append r b, List.append_assoc, Nat.add_assoc]
theorem RSt.num_let (kw name eq : RTok) (e : Tr) (semi : RTok) : (RSt.letS kw name eq e semi).num = e.num := rfl
theorem RSt.num_rule (wh : Option (RTok × Tr)) (act : RTok) (sc : Option Tr) (semi : RTok) : (RSt.rule wh act sc semi).num = optNum (wh.map Prod.snd) + optNum sc := rfl
theorem RSt.nodes_let (b : Nat) (kw name eq : RTok) (e : Tr) (semi : RTok) : (RSt.letS kw name eq e semi).nodes b = e.flat b := rfl
theorem RSt.nodes_rule (b : Nat) (wh : Option (RTok × Tr)) (act : RTok) (sc : Option Tr) (semi : RTok) : (RSt.rule wh act sc semi).nodes b = optNodes b (wh.map Prod.snd) ++ optNodes (b + optNum (wh.map Prod.snd)) sc := rfl
theorem RSt.lets_let (b : Nat) (kw name eq : RTok) (e : Tr) (semi : RTok) : (RSt.letS kw name eq e semi).lets b = [⟨name, layE b e⟩] := rfl
theorem RSt.lets_rule (b : Nat) (wh : Option (RTok × Tr)) (act : RTok) (sc : Option Tr) (semi : RTok) : (RSt.rule wh act sc semi).lets b = [] := rfl
theorem RSt.rules_let (b : Nat) (kw name eq : RTok) (e : Tr) (semi : RTok) : (RSt.letS kw name eq e semi).rules b = [] := rfl
theorem RSt.rules_rule (b : Nat) (wh : Option (RTok × Tr)) (act : RTok) (sc : Option Tr) (semi : RTok) : (RSt.rule wh act sc semi).rules b = [⟨wh.isSome, optE b (wh.map Prod.snd), sc.isSome, optE (b + optNum (wh.map Prod.snd)) sc⟩] := rfl
theorem optNodes_len (o : Option Tr) (h : ∀ e, o = some e → e.wf) (b : Nat) : (optNodes b o).length = optNum o := by
  cases o with
  | none => rfl
  | some e => exact e.flat_len (h e rfl) b
theorem RSt.nodes_len (s : RSt) (h : s.wf) (b : Nat) : (s.nodes b).length = s.num := by
  rcases s.cases with ⟨kw, name, eq, e, semi, rfl⟩ | ⟨wh, act, sc, semi, rfl⟩
  · exact e.flat_len h.2.2.2.1 b
  · rw [RSt.nodes_rule, RSt.num_rule, List.length_append, optNodes_len _ _, optNodes_len _ _]
    · exact fun e he => h.2.2.1 e he
    · intro e he
      cases wh with
      | none => cases he
      | some p => cases he; exact (h.1 p.1 p.2 rfl).2
theorem nodesS_len : ∀ (l : List RSt), (∀ s ∈ l, s.wf) → ∀ b, (nodesS b l).length = numS l
  | [], _, _ => rfl
  | s :: r, h, b => by
    simp only [nodesS, numS, List.length_append, s.nodes_len (h s (by simp)) b, nodesS_len r (fun x hx => h x (by simp [hx]))]

/-- The nodes of an EXPR. -/
def segE (N : List PNode) (e : PExp) : List PNode := (N.drop e.fr).take (e.behind - e.fr)
theorem seg_noExp (N : List PNode) : segE N noExp = [] := by simp [segE, noExp]
theorem seg_lay {N pre post : List PNode} {t : Tr} (ht : t.wf) (hN : N = pre ++ t.flat pre.length ++ post) : segE N (layE pre.length t) = t.flat pre.length := by
  subst hN
  simp only [segE, layE]
  rw [List.append_assoc, List.drop_left', Nat.add_sub_cancel_left]
  · rw [List.take_left' (t.flat_len ht _)]
  · rfl

def letIx (ls : List PLet) (t : Txt) : Nat := ls.findIdx (fun p => p.name.text == t)
theorem letIx_le (ls : List PLet) (t : Txt) : letIx ls t ≤ ls.length := List.findIdx_le_length
/-- Is the name among the first ones? -/
theorem letIx_lt (ls : List PLet) (t : Txt) (i : Nat) (hi : i ≤ ls.length) : ((ls.take i).map (fun p => p.name.text)).contains t = decide (letIx ls t < i) := by
  rw [Bool.eq_iff_iff]
  simp only [List.contains_iff_mem, List.mem_map, decide_eq_true_eq]
  constructor
  · rintro ⟨p, hp, rfl⟩
    obtain ⟨k, hk, rfl⟩ := List.getElem_of_mem hp
    simp only [List.length_take] at hk
    rw [List.getElem_take]
    have : letIx ls ls[k].name.text ≤ k := by
      unfold letIx
      apply Nat.le_of_not_lt
      intro hlt
      have := List.not_of_lt_findIdx hlt
      simp at this
    omega
  · intro h
    have hl : letIx ls t < ls.length := by omega
    refine ⟨ls[letIx ls t], ?_, ?_⟩
    · rw [List.mem_take_iff_getElem]
      exact ⟨letIx ls t, by omega, rfl⟩
    · have := List.findIdx_getElem (p := fun p : PLet => p.name.text == t) (xs := ls) (w := hl)
      exact beq_iff_eq.1 this
/-- The place of the first name among nodes that no earlier let has. -/
def namesE (ls : List PLet) (ahead : Nat) : List PNode → Option Nat
  | [] => none
  | n :: r => if nameT n.tok.text && decide (ahead ≤ letIx ls n.tok.text) then some n.tok.at' else namesE ls ahead r
def namesToks (ls : List PLet) (ahead : Nat) : List RTok → Option Nat
  | [] => none
  | n :: r => if nameT n.text && decide (ahead ≤ letIx ls n.text) then some n.at' else namesToks ls ahead r
theorem namesE_append (ls : List PLet) (i : Nat) : ∀ (a b : List PNode), namesE ls i (a ++ b) = match namesE ls i a with | some p => some p | none => namesE ls i b
  | [], b => rfl
  | n :: r, b => by
    simp only [List.cons_append, namesE]
    split
    · rfl
    · exact namesE_append ls i r b
theorem namesToks_append (ls : List PLet) (i : Nat) : ∀ (a b : List RTok), namesToks ls i (a ++ b) = match namesToks ls i a with | some p => some p | none => namesToks ls i b
  | [], b => rfl
  | n :: r, b => by
    simp only [List.cons_append, namesToks]
    split
    · rfl
    · exact namesToks_append ls i r b
theorem un_no_name {t : Txt} (h : unT t = true) : nameT t = false := by
  simp only [unT, Bool.or_eq_true, beq_iff_eq] at h
  rcases h with rfl | rfl <;> decide
theorem bin_no_name {t : Txt} (h : 0 < bindsT t) : nameT t = false := by
  have hj := (joint_binds t).2 h
  simp only [jointT, tJoint, List.contains_cons, List.contains_nil, Bool.or_false, Bool.or_eq_true, beq_iff_eq] at hj
  rcases hj with rfl | rfl | rfl | rfl | rfl | rfl | rfl | rfl | rfl | rfl | rfl <;> decide
/-- In a tree names stand in the order of the text. -/
theorem names_tree (ls : List PLet) (i : Nat) (t : Tr) (h : t.wf) : ∀ b, namesE ls i (t.flat b) = namesToks ls i t.toks := by
  refine Tr.ind (P := fun t => ∀ b, namesE ls i (t.flat b) = namesToks ls i t.toks) t h ?_ ?_ ?_ ?_
  · intro a ha b
    rw [Tr.flat_leaf, Tr.toks_leaf]; rfl
  · intro op e hw ih b
    rw [Tr.flat_un, Tr.toks_un, namesE_append, ih]
    have := un_no_name (Tr.wf_un hw).1
    simp only [namesToks, namesE, this]
    cases namesToks ls i e.toks <;> simp
  · intro op l r hw h1 h2 b
    rw [Tr.flat_bin, Tr.toks_bin, namesE_append, namesE_append, h1, h2, namesToks_append]
    have := bin_no_name (Tr.wf_bin hw).1
    simp only [namesToks, namesE, this]
    cases namesToks ls i l.toks <;> cases namesToks ls i r.toks <;> simp
  · intro o e c hw ih b
    have ho : nameT o.text = false := by rw [(Tr.wf_par hw).1]; decide
    have hc : nameT c.text = false := by rw [(Tr.wf_par hw).2.1]; decide
    rw [Tr.flat_par, Tr.toks_par, ih]
    simp only [namesToks, ho, Bool.false_and, Bool.false_eq_true, if_false]
    rw [namesToks_append]
    cases namesToks ls i e.toks <;> simp [namesToks, hc]
/-- The document's look at the names of an EXPR. -/
theorem names_expr (ls : List PLet) (i : Nat) (hi : i ≤ ls.length) (late : Txt) : ∀ (l : List RTok), (∀ x ∈ l, plainE x.text) → ∀ (prev : Txt), prev ≠ cLet → ∀ (rest : List RTok),
    ∃ pv, pv ≠ cLet ∧ namesGo ((ls.take i).map (fun p => p.name.text)) late prev (l ++ rest) = match namesToks ls i l with | some p => some p | none => namesGo ((ls.take i).map (fun p => p.name.text)) late pv rest
  | [], _, prev, hp, rest => ⟨prev, hp, rfl⟩
  | t :: r, hl, prev, hp, rest => by
    obtain ⟨h1, h2, _⟩ := hl t (by simp)
    have hs : (t.text == cSemi) = false := by simpa using h1
    obtain ⟨e1, e2⟩ := thereN_no (there := (ls.take i).map (fun p => p.name.text)) (late := late) (t := t.text) (.inl hs)
    have hpb : (prev == cLet) = false := by simpa using hp
    obtain ⟨pv, g1, g3⟩ := names_expr ls i hi late r (fun x hx => hl x (by simp [hx])) t.text h2 rest
    refine ⟨pv, g1, ?_⟩
    simp only [List.cons_append, namesGo, namesToks, e1, e2, hpb]
    cases hn : nameT t.text
    · simpa using g3
    · rw [letIx_lt ls t.text i hi]
      by_cases hx : letIx ls t.text < i
      · have : ¬ i ≤ letIx ls t.text := by omega
        simpa [hx, this] using g3
      · have : i ≤ letIx ls t.text := by omega
        simp [hx, this]
end Go.Proofs.YtkbbdfeobcklhaaGreatDoor
