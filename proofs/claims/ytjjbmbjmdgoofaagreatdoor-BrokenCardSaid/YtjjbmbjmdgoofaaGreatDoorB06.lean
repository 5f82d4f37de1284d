/-
  The kinds of values of a whole policy: plain.
-/
import Derived.Test.YtjjbmbjmdgoofaaGreatDoorB05
set_option linter.unusedVariables false
set_option linter.unusedSimpArgs false
namespace Go.Proofs.YtjjbmbjmdgoofaaGreatDoor
open Go.Deep
abbrev KSt := List Nat × Option Nat
def lookFor (ls : List PLet) (N : List PNode) (want : Nat) (e : PExp) (st : KSt) : KSt :=
  ((lookGo ls st.1 st.2 (segE N e)).1, failK (lookGo ls st.1 st.2 (segE N e)).2 (decide (kindAt (lookGo ls st.1 st.2 (segE N e)).1 e ≠ want)) e.place)
def kindsL (ls : List PLet) (N : List PNode) : KSt → List PLet → KSt
  | st, [] => st
  | st, p :: r => kindsL ls N (lookGo ls st.1 st.2 (segE N p.val)) r
def whenK (ls : List PLet) (N : List PNode) (p : PRule) (st : KSt) : KSt := if p.hw then lookFor ls N 2 p.when st else st
def scoreK (ls : List PLet) (N : List PNode) (p : PRule) (st : KSt) : KSt := if p.hs then lookFor ls N 1 p.score st else st
def kindsR (ls : List PLet) (N : List PNode) : KSt → List PRule → KSt
  | st, [] => st
  | st, p :: r => kindsR ls N (scoreK ls N p (whenK ls N p st)) r
def pKinds (N : List PNode) (ls : List PLet) (rs : List PRule) : Option Nat := (kindsR ls N (kindsL ls N ([], none) ls) rs).2
theorem lookFor_some (ls : List PLet) (N : List PNode) (want : Nat) (e : PExp) (ks : List Nat) (q : Nat) : (lookFor ls N want e (ks, some q)).2 = some q := by
  simp only [lookFor, (lookGo_some ls (segE N e) ks q).1, failK_some]
theorem some_pair {st : KSt} {q : Nat} (h : st.2 = some q) : st = (st.1, some q) := by rw [← h]
theorem whenK_some (ls : List PLet) (N : List PNode) (p : PRule) (st : KSt) (q : Nat) (h : st.2 = some q) : (whenK ls N p st).2 = some q := by
  unfold whenK; split
  · rw [some_pair h]; exact lookFor_some ..
  · exact h
theorem scoreK_some (ls : List PLet) (N : List PNode) (p : PRule) (st : KSt) (q : Nat) (h : st.2 = some q) : (scoreK ls N p st).2 = some q := by
  unfold scoreK; split
  · rw [some_pair h]; exact lookFor_some ..
  · exact h
theorem kindsR_some (ls : List PLet) (N : List PNode) (q : Nat) : ∀ (l : List PRule) (st : KSt), st.2 = some q → (kindsR ls N st l).2 = some q
  | [], st, h => h
  | p :: r, st, h => kindsR_some ls N q r _ (scoreK_some ls N p _ q (whenK_some ls N p st q h))
theorem kindsL_some (ls : List PLet) (N : List PNode) (q : Nat) : ∀ (l : List PLet) (st : KSt), st.2 = some q → (kindsL ls N st l).2 = some q
  | [], st, h => h
  | p :: r, st, h => kindsL_some ls N q r _ (by rw [h]; exact (lookGo_some ls _ _ q).1)
theorem knownT_at (x : Txt) (k : Nat) : ∀ (c : List (Txt × Nat)) (j : Nat), c[j]? = some (x, k) → (∀ i, i < j → ∀ q, c[i]? = some q → q.1 ≠ x) → knownT c x = k
  | [], j, h, _ => by simp at h
  | (n, v) :: r, 0, h, _ => by
    simp only [List.getElem?_cons_zero, Option.some.injEq, Prod.mk.injEq] at h
    simp [knownT, h.1, h.2]
  | (n, v) :: r, j + 1, h, h2 => by
    have h0 : n ≠ x := h2 0 (by omega) (n, v) rfl
    have hb : (n == x) = false := by simpa using h0
    simp only [knownT, hb]
    simp only [List.getElem?_cons_succ] at h
    exact knownT_at x k r j h fun i hi q hq => h2 (i + 1) (by omega) q (by simpa using hq)
structure ScopeOk (ls : List PLet) (ks : List Nat) (c : List (Txt × Nat)) (i : Nat) : Prop where
  len : c.length = i
  at' : ∀ j, j < i → ∃ p, ls[j]? = some p ∧ c[j]? = some (p.name.text, kindAt ks p.val) ∧ kindAt ks p.val ≠ 0 ∧ 1 ≤ p.val.behind ∧ p.val.behind ≤ ks.length
theorem ScopeOk.inScope {ls : List PLet} {ks : List Nat} {c : List (Txt × Nat)} {i : Nat} (h : ScopeOk ls ks c i) {x : Txt} (hx : letIx ls x < i) : Scoped ls ks c x := by
  obtain ⟨p, h1, h2, h3, h4, h5⟩ := h.at' _ hx
  have hlt : letIx ls x < ls.length := by
    rw [List.getElem?_eq_some_iff] at h1; exact h1.1
  have hnm : p.name.text = x := by
    have := List.findIdx_getElem (p := fun p : PLet => p.name.text == x) (xs := ls) (w := hlt)
    rw [List.getElem?_eq_some_iff] at h1
    obtain ⟨_, h1'⟩ := h1
    have e : ls[ls.findIdx (fun p => p.name.text == x)] = p := h1'
    rw [e] at this
    exact beq_iff_eq.1 this
  have hk : knownT c x = kindAt ks p.val := by
    refine knownT_at x _ c (letIx ls x) (by rw [h2, hnm]) fun j hj q hq => ?_
    obtain ⟨p', g1, g2, _⟩ := h.at' j (by omega)
    rw [g2] at hq
    cases hq
    simp only
    have := List.not_of_lt_findIdx (p := fun p : PLet => p.name.text == x) (xs := ls) (i := j) hj
    rw [List.getElem?_eq_some_iff] at g1
    obtain ⟨_, g1'⟩ := g1
    rw [g1'] at this
    simpa using this
  exact ⟨p, h1, h4, h5, hk.symm, by rw [hk]; exact h3⟩
theorem ScopeOk.more {ls : List PLet} {ks : List Nat} {c : List (Txt × Nat)} {i : Nat} (h : ScopeOk ls ks c i) (ks' : List Nat) : ScopeOk ls (ks ++ ks') c i := by
  refine ⟨h.len, fun j hj => ?_⟩
  obtain ⟨p, h1, h2, h3, h4, h5⟩ := h.at' j hj
  have e : kindAt (ks ++ ks') p.val = kindAt ks p.val := getD_left (by omega)
  exact ⟨p, h1, by rw [e]; exact h2, by rw [e]; exact h3, h4, by simp; omega⟩
theorem names_none (ls : List PLet) (i : Nat) : ∀ (l : List RTok), namesToks ls i l = none → ∀ x ∈ l, nameT x.text = true → letIx ls x.text < i
  | [], _, x, hx, _ => by cases hx
  | t :: r, h, x, hx, hn => by
    simp only [namesToks] at h
    split at h
    · cases h
    · rename_i hc
      simp only [List.mem_cons] at hx
      rcases hx with rfl | hx
      · simp only [hn, Bool.true_and, decide_eq_true_eq] at hc; omega
      · exact names_none ls i r h x hx hn
def RSt.may (s : RSt) : Prop := ∀ x ∈ s.body, mayT x.text = true
theorem look_for {ls : List PLet} {N pre post : List PNode} {ks : List Nat} {c : List (Txt × Nat)} {e : Tr} {want : Nat} (hw : e.wf) (hm : ∀ x ∈ e.toks, mayT x.text = true) (hk : ks.length = pre.length) (hN : N = pre ++ e.flat pre.length ++ post) (hs : ∀ x ∈ e.toks, nameT x.text = true → Scoped ls ks c x.text) :
    match exprK c want (some e) with
    | some p => (lookFor ls N want (layE pre.length e) (ks, none)).2 = some p
    | none => ∃ ks', ks'.length = e.num ∧ lookFor ls N want (layE pre.length e) (ks, none) = (ks ++ ks', none) := by
  have h := look_tree ls c e hw ks hm hs
  rw [hk] at h
  have hseg := seg_lay hw hN
  simp only [exprK]
  cases hc : kindT c e with
  | error p =>
    rw [hc] at h
    obtain ⟨ks', h1, h2⟩ := h
    simp only [lookFor, hseg, h2, failK_some]
  | ok k =>
    rw [hc] at h
    obtain ⟨hk0, ks', h1, h2, h3⟩ := h
    have ha : kindAt (ks ++ ks') (layE pre.length e) = k := by rw [← h3, hk]; rfl
    by_cases hkw : k = want
    · subst hkw
      simp only [if_true]
      exact ⟨ks', h1, by simp [lookFor, hseg, h2, ha, failK]⟩
    · simp only [if_neg hkw]
      show failK (lookGo ls ks none (segE N (layE pre.length e))).2 (decide (kindAt (lookGo ls ks none (segE N (layE pre.length e))).1 (layE pre.length e) ≠ want)) (firstAt e) = _
      rw [hseg, h2]
      simp [failK, ha, hkw]
theorem kinds_rules (N : List PNode) (ls : List PLet) (c : List (Txt × Nat)) : ∀ (R : List RSt), isRuleL' R → (∀ s ∈ R, s.wf ∧ s.may) → ∀ (pre : List PNode) (ks : List Nat), ks.length = pre.length → ScopeOk ls ks c ls.length → N = pre ++ nodesS pre.length R → pNamesR N ls (rulesS pre.length R) = none →
    (kindsR ls N (ks, none) (rulesS pre.length R)).2 = rulesK c R
  | [], _, _, _, _, _, _, _, _ => rfl
  | s :: r, hr, hw, pre, ks, hk, hsc, hN, hnm => by
    rcases s.cases with ⟨kw, name, eq, e, semi, rfl⟩ | ⟨wh, act, sc, semi, rfl⟩
    · have := hr _ List.mem_cons_self; cases this
    obtain ⟨⟨w1, w2, w3, w4⟩, hmay⟩ := hw _ List.mem_cons_self
    simp only at w1 w2 w3 w4
    have ho1 : ∀ e, wh.map Prod.snd = some e → e.wf := by
      intro e he
      cases wh with
      | none => cases he
      | some p => cases he; exact (w1 p.1 p.2 rfl).2
    have ho2 : ∀ e, sc = some e → e.wf := w3
    have hN1 : N = pre ++ optNodes pre.length (wh.map Prod.snd) ++ (optNodes (pre.length + optNum (wh.map Prod.snd)) sc ++ nodesS (pre.length + (RSt.rule wh act sc semi).num) r) := by
      rw [hN, nodesS, RSt.nodes_rule]; simp [List.append_assoc]
    have hl1 : (pre ++ optNodes pre.length (wh.map Prod.snd)).length = pre.length + optNum (wh.map Prod.snd) := by rw [List.length_append, optNodes_len _ ho1]
    have hN2 : N = (pre ++ optNodes pre.length (wh.map Prod.snd)) ++ optNodes (pre.length + optNum (wh.map Prod.snd)) sc ++ nodesS (pre.length + (RSt.rule wh act sc semi).num) r := by
      rw [hN1]; simp [List.append_assoc]
    have hl2 : (pre ++ (RSt.rule wh act sc semi).nodes pre.length).length = pre.length + (RSt.rule wh act sc semi).num := by rw [List.length_append, RSt.nodes_len _ (hw _ List.mem_cons_self).1]
    rw [rulesS, RSt.rules_rule, List.singleton_append, pNamesR] at hnm
    simp only at hnm
    rw [seg_opt ho1 _ rfl hN1, seg_opt ho2 _ hl1.symm hN2, names_opt ls _ _ ho1, names_opt ls _ _ ho2] at hnm
    have hn1 : namesToks ls ls.length (optToks (wh.map Prod.snd)) = none := by
      cases h : namesToks ls ls.length (optToks (wh.map Prod.snd)) with
      | none => rfl
      | some q => rw [h] at hnm; cases hnm
    rw [hn1] at hnm
    simp only at hnm
    have hn2 : namesToks ls ls.length (optToks sc) = none := by
      cases h : namesToks ls ls.length (optToks sc) with
      | none => rfl
      | some q => rw [h] at hnm; cases hnm
    rw [hn2] at hnm
    simp only at hnm
    have hm1 : ∀ e, wh.map Prod.snd = some e → ∀ x ∈ e.toks, mayT x.text = true := by
      intro e he x hx
      cases wh with
      | none => cases he
      | some p => cases he; exact hmay x (by rw [RSt.body_rule]; simp [whToks, hx])
    have hm2 : ∀ e, sc = some e → ∀ x ∈ e.toks, mayT x.text = true := by
      intro e he x hx
      subst he
      exact hmay x (by rw [RSt.body_rule]; simp [optToks, hx])
    rw [rulesS, RSt.rules_rule, List.singleton_append, kindsR, rulesK_rule]
    -- behind the `when`
    have step1 : match exprK c 2 (wh.map Prod.snd) with
        | some p => (whenK ls N ⟨wh.isSome, optE pre.length (wh.map Prod.snd), sc.isSome, optE (pre.length + optNum (wh.map Prod.snd)) sc⟩ (ks, none)).2 = some p
        | none => ∃ ks', ks'.length = optNum (wh.map Prod.snd) ∧ whenK ls N ⟨wh.isSome, optE pre.length (wh.map Prod.snd), sc.isSome, optE (pre.length + optNum (wh.map Prod.snd)) sc⟩ (ks, none) = (ks ++ ks', none) := by
      cases wh with
      | none => exact ⟨[], rfl, by simp [whenK]⟩
      | some p =>
        obtain ⟨k, e⟩ := p
        have := look_for (want := 2) (ho1 e rfl) (hm1 e rfl) hk hN1 (fun x hx hx2 => hsc.inScope (names_none ls _ _ hn1 x hx hx2))
        simp only [whenK, Option.isSome_some, if_true]
        exact this
    cases hx1 : exprK c 2 (wh.map Prod.snd) with
    | some p =>
      rw [hx1] at step1
      exact kindsR_some ls N p _ _ (scoreK_some ls N _ _ p step1)
    | none =>
      rw [hx1] at step1
      obtain ⟨ks1, g1, g2⟩ := step1
      simp only
      rw [g2]
      have hk1 : (ks ++ ks1).length = (pre ++ optNodes pre.length (wh.map Prod.snd)).length := by rw [hl1]; simp [g1, hk]
      have step2 : match exprK c 1 sc with
          | some p => (scoreK ls N ⟨wh.isSome, optE pre.length (wh.map Prod.snd), sc.isSome, optE (pre.length + optNum (wh.map Prod.snd)) sc⟩ (ks ++ ks1, none)).2 = some p
          | none => ∃ ks', ks'.length = optNum sc ∧ scoreK ls N ⟨wh.isSome, optE pre.length (wh.map Prod.snd), sc.isSome, optE (pre.length + optNum (wh.map Prod.snd)) sc⟩ (ks ++ ks1, none) = (ks ++ ks1 ++ ks', none) := by
        cases sc with
        | none => exact ⟨[], rfl, by simp [scoreK]⟩
        | some e =>
          rw [← hl1] at hN2 ⊢
          have := look_for (want := 1) (ho2 e rfl) (hm2 e rfl) hk1 hN2 (fun x hx hx2 => (hsc.inScope (names_none ls _ _ hn2 x hx hx2)).more ks1)
          simp only [scoreK, Option.isSome_some, if_true]
          exact this
      cases hx2 : exprK c 1 sc with
      | some p =>
        rw [hx2] at step2
        exact kindsR_some ls N p _ _ step2
      | none =>
        rw [hx2] at step2
        obtain ⟨ks2, g3, g4⟩ := step2
        simp only
        rw [g4]
        have ih := kinds_rules N ls c r (fun x hx => hr x (by simp [hx])) (fun x hx => hw x (by simp [hx])) (pre ++ (RSt.rule wh act sc semi).nodes pre.length) (ks ++ ks1 ++ ks2) (by rw [hl2, RSt.num_rule]; simp [hk, g1, g3, Nat.add_assoc]) ((hsc.more ks1).more ks2) (by rw [hl2, hN, nodesS]; simp [List.append_assoc]) (by rw [hl2]; exact hnm)
        rw [hl2] at ih
        exact ih
theorem kinds_lets (N : List PNode) (ls : List PLet) (R : List RSt) (hR : isRuleL' R) (hRw : ∀ s ∈ R, s.wf ∧ s.may) : ∀ (B A : List RSt), isLetL' A → isLetL' B → (∀ s ∈ A, s.wf) → (∀ s ∈ B, s.wf ∧ s.may) → ls = letsS 0 (A ++ B) → N = nodesS 0 (A ++ B ++ R) → ∀ (ks : List Nat) (c : List (Txt × Nat)), ks.length = numS A → ScopeOk ls ks c A.length → pNamesL N ls A.length (letsS (numS A) B) = none → pNamesR N ls (rulesS (numS (A ++ B)) R) = none →
    (kindsR ls N (kindsL ls N (ks, none) (letsS (numS A) B)) (rulesS (numS (A ++ B)) R)).2 = match letsK c B with
      | .error p => some p
      | .ok c' => rulesK c' R
  | [], A, hA, _, hAw, _, hls, hN, ks, c, hk, hsc, _, hn => by
    have hlen : ls.length = A.length := by rw [hls, List.append_nil, lets_len A hA]
    have hl : (nodesS 0 A).length = numS A := nodesS_len A hAw 0
    simp only [letsS, kindsL, letsK, List.append_nil] at hn ⊢
    have := kinds_rules N ls c R hR hRw (nodesS 0 A) ks (by rw [hl, hk]) (by rw [hlen]; exact hsc) (by rw [hN, List.append_nil, nodesS_append, hl, Nat.zero_add]) (by rw [hl]; exact hn)
    rw [hl] at this
    exact this
  | s :: B, A, hA, hB, hAw, hBw, hls, hN, ks, c, hk, hsc, hn1, hn2 => by
    rcases s.cases with ⟨kw, name, eq, e, semi, rfl⟩ | ⟨wh, act, sc, semi, rfl⟩
    rotate_left
    · have := hB _ List.mem_cons_self; cases this
    obtain ⟨⟨w1, w2, w3, w4, w5⟩, hmay⟩ := hBw _ List.mem_cons_self
    simp only at w1 w2 w3 w4 w5
    have hme : ∀ x ∈ e.toks, mayT x.text = true := fun x hx => hmay x (by rw [RSt.body_let]; simp [hx])
    have hAl : (letsS 0 A).length = A.length := lets_len A hA 0
    have hgi : ls[A.length]? = some ⟨name, layE (numS A) e⟩ := by
      rw [hls, letsS_append, List.getElem?_append_right (by omega), hAl, Nat.sub_self, letsS, RSt.lets_let]
      simp
    have hn0 : (nodesS 0 A).length = numS A := nodesS_len A hAw 0
    have hseg : segE N (layE (numS A) e) = e.flat (numS A) := by
      rw [← hn0]
      refine seg_lay (post := nodesS (numS A + e.num) (B ++ R)) w4 ?_
      rw [hN, List.append_assoc, nodesS_append, hn0, Nat.zero_add, List.cons_append, nodesS, RSt.nodes_let, RSt.num_let]; simp [List.append_assoc]
    rw [letsS, RSt.lets_let, RSt.num_let, List.singleton_append, pNamesL] at hn1
    simp only at hn1
    rw [hseg, names_tree ls _ e w4] at hn1
    split at hn1
    · cases hn1
    have hnt : namesToks ls A.length e.toks = none := by
      cases h : namesToks ls A.length e.toks with
      | none => rfl
      | some q => rw [h] at hn1; cases hn1
    rw [hnt] at hn1
    simp only at hn1
    rw [letsS, RSt.lets_let, RSt.num_let, List.singleton_append, kindsL, letsK_let]
    simp only
    rw [hseg]
    have hL := look_tree ls c e w4 ks hme (fun x hx hx2 => hsc.inScope (names_none ls _ _ hnt x hx hx2))
    rw [hk] at hL
    cases hc : kindT c e with
    | error p =>
      rw [hc] at hL
      obtain ⟨ks', g1, g2⟩ := hL
      rw [g2]
      exact kindsR_some ls N p _ _ (kindsL_some ls N p _ _ rfl)
    | ok k =>
      rw [hc] at hL
      obtain ⟨hk0, ks', g1, g2, g3⟩ := hL
      rw [g2]
      simp only
      have hpos := e.num_pos w4
      have hka : kindAt (ks ++ ks') (layE (numS A) e) = k := by rw [← g3, hk]; rfl
      have hnum : numS (A ++ [RSt.letS kw name eq e semi]) = numS A + e.num := by rw [numS_append]; simp [numS, RSt.num_let]
      have ih := kinds_lets N ls R hR hRw B (A ++ [.letS kw name eq e semi]) (by intro x hx; simp at hx; rcases hx with hx | rfl; exact hA x hx; rfl) (fun x hx => hB x (by simp [hx])) (by intro x hx; simp at hx; rcases hx with hx | rfl; exact hAw x hx; exact ⟨w1, w2, w3, w4, w5⟩) (fun x hx => hBw x (by simp [hx])) (by rw [hls]; simp) (by rw [hN]; simp) (ks ++ ks') (c ++ [(name.text, k)]) (by rw [hnum]; simp [hk, g1]) ?_ (by rw [hnum]; simpa using hn1) (by rw [List.append_assoc]; exact hn2)
      · rw [hnum, List.append_assoc] at ih
        exact ih
      · refine ⟨by simp [hsc.len], fun j hj => ?_⟩
        simp only [List.length_append, List.length_cons, List.length_nil] at hj
        by_cases hj2 : j < A.length
        · obtain ⟨p, q1, q2, q3, q4, q5⟩ := (hsc.more ks').at' j hj2
          exact ⟨p, q1, by rw [List.getElem?_append_left (by rw [hsc.len]; omega)]; exact q2, q3, q4, q5⟩
        · have : j = A.length := by omega
          subst this
          refine ⟨_, hgi, ?_, by rw [hka]; exact hk0, by simp [layE]; omega, by simp [layE, hk, g1]⟩
          rw [hka, List.getElem?_append_right (by rw [hsc.len]; omega), hsc.len, Nat.sub_self]
          rfl
theorem kinds_same (L R : List RSt) (hL : isLetL' L) (hR : isRuleL' R) (hw : ∀ s ∈ L ++ R, s.wf ∧ s.may) (hn : pNames (nodesS 0 (L ++ R)) (letsS 0 (L ++ R)) (rulesS 0 (L ++ R)) = none) :
    pKinds (nodesS 0 (L ++ R)) (letsS 0 (L ++ R)) (rulesS 0 (L ++ R)) = wrongT L R := by
  have h1 : letsS 0 (L ++ R) = letsS 0 ([] ++ L) := by rw [letsS_append, lets_none R hR, List.append_nil, List.nil_append]
  have h2 : rulesS 0 (L ++ R) = rulesS (numS L) R := by rw [rulesS_append, rules_none L hL, List.nil_append, Nat.zero_add]
  unfold pNames at hn
  cases hp : pNamesL (nodesS 0 (L ++ R)) (letsS 0 (L ++ R)) 0 (letsS 0 (L ++ R)) with
  | some q => rw [hp] at hn; cases hn
  | none =>
    rw [hp] at hn
    simp only at hn
    have := kinds_lets (nodesS 0 (L ++ R)) (letsS 0 (L ++ R)) R hR (fun s hs => hw s (by simp [hs])) L [] (fun s hs => by cases hs) hL (fun s hs => by cases hs) (fun s hs => hw s (by simp [hs])) h1 rfl [] [] rfl ⟨rfl, fun j hj => by cases hj⟩ (by rw [h1] at hp; rw [h1]; exact hp) (by rw [h2] at hn; exact hn)
    rw [wrongT, pKinds, h2]
    have e4 : letsS (numS []) L = letsS 0 (L ++ R) := by rw [h1]; rfl
    rw [e4] at this
    refine Eq.trans ?_ (this.trans ?_)
    · rfl
    · cases letsK [] L <;> rfl
end Go.Proofs.YtjjbmbjmdgoofaaGreatDoor
