/-
  The names of a policy: the document's look and the program's agree: plain.
-/
import Derived.Test.YtjjbmbjmdgoofaaGreatDoorB03
set_option linter.unusedVariables false
set_option linter.unusedSimpArgs false
namespace Go.Proofs.YtjjbmbjmdgoofaaGreatDoor
open Go.Deep
def pNamesL (N : List PNode) (ls : List PLet) : Nat → List PLet → Option Nat
  | _, [] => none
  | i, p :: r => if letIx ls p.name.text < i then some p.name.at' else match namesE ls i (segE N p.val) with
    | some q => some q
    | none => pNamesL N ls (i + 1) r
def pNamesR (N : List PNode) (ls : List PLet) : List PRule → Option Nat
  | [] => none
  | p :: r => match namesE ls ls.length (segE N p.when) with
    | some q => some q
    | none => match namesE ls ls.length (segE N p.score) with
      | some q => some q
      | none => pNamesR N ls r
def pNames (N : List PNode) (ls : List PLet) (rs : List PRule) : Option Nat := match pNamesL N ls 0 ls with
  | some p => some p
  | none => pNamesR N ls rs
def isLetL' (L : List RSt) : Prop := ∀ s ∈ L, s.isLet = true
def isRuleL' (L : List RSt) : Prop := ∀ s ∈ L, s.isLet = false
theorem lets_len : ∀ (L : List RSt), isLetL' L → ∀ b, (letsS b L).length = L.length
  | [], _, _ => rfl
  | s :: r, h, b => by
    rcases s.cases with ⟨kw, name, eq, e, semi, rfl⟩ | ⟨wh, act, sc, semi, rfl⟩
    · simp only [letsS, RSt.lets_let, List.length_append, List.length_cons, List.length_nil, lets_len r (fun x hx => h x (by simp [hx]))]; omega
    · have := h _ List.mem_cons_self; cases this
theorem lets_none : ∀ (L : List RSt), isRuleL' L → ∀ b, letsS b L = []
  | [], _, _ => rfl
  | s :: r, h, b => by
    rcases s.cases with ⟨kw, name, eq, e, semi, rfl⟩ | ⟨wh, act, sc, semi, rfl⟩
    · have := h _ List.mem_cons_self; cases this
    · simp only [letsS, RSt.lets_rule, List.nil_append, lets_none r (fun x hx => h x (by simp [hx]))]
theorem rules_none : ∀ (L : List RSt), isLetL' L → ∀ b, rulesS b L = []
  | [], _, _ => rfl
  | s :: r, h, b => by
    rcases s.cases with ⟨kw, name, eq, e, semi, rfl⟩ | ⟨wh, act, sc, semi, rfl⟩
    · simp only [rulesS, RSt.rules_let, List.nil_append, rules_none r (fun x hx => h x (by simp [hx]))]
    · have := h _ List.mem_cons_self; cases this
theorem seg_opt {N pre post : List PNode} {o : Option Tr} (ho : ∀ e, o = some e → e.wf) (b : Nat) (hb : b = pre.length) (hN : N = pre ++ optNodes b o ++ post) : segE N (optE b o) = optNodes b o := by
  subst hb
  cases o with
  | none => exact seg_noExp N
  | some t => exact seg_lay (ho t rfl) hN
theorem names_opt (ls : List PLet) (i : Nat) (o : Option Tr) (ho : ∀ e, o = some e → e.wf) (b : Nat) : namesE ls i (optNodes b o) = namesToks ls i (optToks o) := by
  cases o with
  | none => rfl
  | some t => exact names_tree ls i t (ho t rfl) b
theorem opt_plain (o : Option Tr) (ho : ∀ e, o = some e → e.wf) : ∀ x ∈ optToks o, plainE x.text := by
  cases o with
  | none => intro x hx; cases hx
  | some t => exact t.plain (ho t rfl)
theorem names_skip {there : List Txt} {late prev : Txt} {t : RTok} {r : List RTok} (h1 : nameT t.text = false) (h2 : t.text ≠ cSemi) : namesGo there late prev (t :: r) = namesGo there late t.text r := by
  obtain ⟨e1, e2⟩ := thereN_no (there := there) (late := late) (t := t.text) (.inl (by simpa using h2))
  simp [namesGo, h1, e1, e2]
theorem names_skip0 {there : List Txt} {prev : Txt} {t : RTok} {r : List RTok} (h1 : nameT t.text = false) : namesGo there [] prev (t :: r) = namesGo there [] t.text r := by
  obtain ⟨e1, e2⟩ := thereN_no (there := there) (late := []) (t := t.text) (.inr rfl)
  simp [namesGo, h1, e1, e2]
theorem names_rules (N : List PNode) (ls : List PLet) : ∀ (R : List RSt), isRuleL' R → (∀ s ∈ R, s.wf) → ∀ (pre : List PNode) (prev : Txt), prev ≠ cLet → N = pre ++ nodesS pre.length R →
    namesGo (ls.map (fun p => p.name.text)) [] prev (toksL R) = pNamesR N ls (rulesS pre.length R)
  | [], _, _, _, _, _, _ => rfl
  | s :: r, hr, hw, pre, prev, hp, hN => by
    rcases s.cases with ⟨kw, name, eq, e, semi, rfl⟩ | ⟨wh, act, sc, semi, rfl⟩
    · have := hr _ List.mem_cons_self; cases this
    have hws := hw _ List.mem_cons_self
    obtain ⟨w1, w2, w3, w4⟩ := hws
    simp only at w1 w2 w3 w4
    have ho1 : ∀ e, wh.map Prod.snd = some e → e.wf := by
      intro e he
      cases wh with
      | none => cases he
      | some p => cases he; exact (w1 p.1 p.2 rfl).2
    have ho2 : ∀ e, sc = some e → e.wf := w3
    have hact : nameT act.text = false := by rw [w2]; split <;> decide
    have hact2 : act.text ≠ cLet := by rw [w2]; split <;> decide
    have hsem : nameT semi.text = false := by rw [w4]; decide
    have hsem2 : semi.text ≠ cLet := by rw [w4]; decide
    rw [rulesS, RSt.rules_rule, List.singleton_append, pNamesR]
    simp only
    have hN1 : N = pre ++ optNodes pre.length (wh.map Prod.snd) ++ (optNodes (pre.length + optNum (wh.map Prod.snd)) sc ++ nodesS (pre.length + (RSt.rule wh act sc semi).num) r) := by
      rw [hN, nodesS, RSt.nodes_rule]; simp [List.append_assoc]
    have hl1 : (pre ++ optNodes pre.length (wh.map Prod.snd)).length = pre.length + optNum (wh.map Prod.snd) := by rw [List.length_append, optNodes_len _ ho1]
    have hN2 : N = (pre ++ optNodes pre.length (wh.map Prod.snd)) ++ optNodes (pre.length + optNum (wh.map Prod.snd)) sc ++ nodesS (pre.length + (RSt.rule wh act sc semi).num) r := by
      rw [hN1]; simp [List.append_assoc]
    have hl2 : (pre ++ (RSt.rule wh act sc semi).nodes pre.length).length = pre.length + (RSt.rule wh act sc semi).num := by rw [List.length_append, RSt.nodes_len _ (hw _ List.mem_cons_self)]
    rw [seg_opt ho1 _ rfl hN1, seg_opt ho2 _ hl1.symm hN2, names_opt ls _ _ ho1, names_opt ls _ _ ho2]
    have ih := names_rules N ls r (fun x hx => hr x (by simp [hx])) (fun x hx => hw x (by simp [hx])) (pre ++ (RSt.rule wh act sc semi).nodes pre.length) semi.text hsem2 (by rw [hl2, hN, nodesS]; simp [List.append_assoc])
    rw [hl2] at ih
    rw [← ih, toksL_cons, RSt.toks, RSt.body_rule]
    have hT : (ls.map (fun p => p.name.text)) = ((ls.take ls.length).map (fun p => p.name.text)) := by rw [List.take_length]
    rw [hT]
    have step2 : ∀ prev' : Txt, prev' ≠ cLet → namesGo ((ls.take ls.length).map (fun p => p.name.text)) [] prev' (act :: (optToks sc ++ (semi :: toksL r))) = match namesToks ls ls.length (optToks sc) with
        | some q => some q
        | none => namesGo ((ls.take ls.length).map (fun p => p.name.text)) [] semi.text (toksL r) := by
      intro prev' hp'
      rw [names_skip0 hact]
      obtain ⟨pv, g1, g2⟩ := names_expr ls ls.length (Nat.le_refl _) [] (optToks sc) (opt_plain sc ho2) act.text hact2 (semi :: toksL r)
      rw [g2]
      cases namesToks ls ls.length (optToks sc) with
      | some q => rfl
      | none => simp only; rw [names_skip0 hsem]
    cases wh with
    | none =>
      have := step2 prev hp
      simpa [whToks, optToks, namesToks, RSt.semi, RSt.rule] using this
    | some p =>
      obtain ⟨k, e⟩ := p
      have hk : k.text = cWhen := (w1 k e rfl).1
      have hk1 : nameT k.text = false := by rw [hk]; decide
      have hk2 : k.text ≠ cLet := by rw [hk]; decide
      obtain ⟨pv, g1, g2⟩ := names_expr ls ls.length (Nat.le_refl _) [] e.toks (e.plain (ho1 e rfl)) k.text hk2 (act :: (optToks sc ++ (semi :: toksL r)))
      have e1 : whToks (some (k, e)) ++ act :: optToks sc ++ [(RSt.rule (some (k, e)) act sc semi).semi] ++ toksL r = k :: (e.toks ++ (act :: (optToks sc ++ (semi :: toksL r)))) := by simp [whToks, RSt.semi, RSt.rule]
      rw [e1, names_skip0 hk1, g2]
      simp only [Option.map_some, optToks]
      cases namesToks ls ls.length e.toks with
      | some q => rfl
      | none => exact step2 pv g1
theorem name_ne_nil {t : Txt} (h : nameT t = true) : (t == []) = false := by
  cases t with
  | nil => revert h; decide
  | cons a r => rfl
theorem names_lets (N : List PNode) (ls : List PLet) (R : List RSt) (hR : isRuleL' R) (hRw : ∀ s ∈ R, s.wf) : ∀ (B A : List RSt), isLetL' A → isLetL' B → (∀ s ∈ A, s.wf) → (∀ s ∈ B, s.wf) → ls = letsS 0 (A ++ B) → N = nodesS 0 (A ++ B ++ R) → ∀ prev : Txt, prev ≠ cLet →
    namesGo ((ls.take A.length).map (fun p => p.name.text)) [] prev (toksL (B ++ R)) = match pNamesL N ls A.length (letsS (numS A) B) with
      | some p => some p
      | none => pNamesR N ls (rulesS (numS (A ++ B)) R)
  | [], A, hA, _, hAw, _, hls, hN, prev, hp => by
    have hlen : ls.length = A.length := by rw [hls, List.append_nil, lets_len A hA]
    rw [← hlen, List.take_length, List.nil_append]
    simp only [letsS, pNamesL, List.append_nil]
    have hl : (nodesS 0 A).length = numS A := nodesS_len A hAw 0
    have := names_rules N ls R hR hRw (nodesS 0 A) prev hp (by rw [hN, List.append_nil, nodesS_append, hl, Nat.zero_add])
    rw [hl] at this
    exact this
  | s :: B, A, hA, hB, hAw, hBw, hls, hN, prev, hp => by
    rcases s.cases with ⟨kw, name, eq, e, semi, rfl⟩ | ⟨wh, act, sc, semi, rfl⟩
    rotate_left
    · have := hB _ List.mem_cons_self; cases this
    obtain ⟨w1, w2, w3, w4, w5⟩ := hBw _ List.mem_cons_self
    simp only at w1 w2 w3 w4 w5
    have hi : A.length + 1 ≤ ls.length := by rw [hls, letsS_append, List.length_append, lets_len A hA, lets_len _ hB]; simp
    have hAl : (letsS 0 A).length = A.length := lets_len A hA 0
    have hgi : ls[A.length]? = some ⟨name, layE (numS A) e⟩ := by
      rw [hls, letsS_append, List.getElem?_append_right (by omega), hAl, Nat.sub_self, letsS, RSt.lets_let]
      simp
    have htk : (ls.take (A.length + 1)).map (fun p => p.name.text) = (ls.take A.length).map (fun p => p.name.text) ++ [name.text] := by
      rw [List.take_add_one, hgi]; simp
    have kw1 : nameT kw.text = false := by rw [w1]; decide
    have kw2 : kw.text ≠ cSemi := by rw [w1]; decide
    have eq1 : nameT eq.text = false := by rw [w3]; decide
    have eq2 : eq.text ≠ cSemi := by rw [w3]; decide
    have eq3 : eq.text ≠ cLet := by rw [w3]; decide
    have sm1 : nameT semi.text = false := by rw [w5]; decide
    have sm2 : semi.text ≠ cLet := by rw [w5]; decide
    have hn0 : (nodesS 0 A).length = numS A := nodesS_len A hAw 0
    have hseg : segE N (layE (numS A) e) = e.flat (numS A) := by
      rw [← hn0]
      refine seg_lay (post := nodesS (numS A + e.num) (B ++ R)) w4 ?_
      rw [hN, List.append_assoc, nodesS_append, hn0, Nat.zero_add, List.cons_append, nodesS, RSt.nodes_let, RSt.num_let]; simp [List.append_assoc]
    have ih := names_lets N ls R hR hRw B (A ++ [.letS kw name eq e semi]) (by intro x hx; simp at hx; rcases hx with hx | rfl; exact hA x hx; rfl) (fun x hx => hB x (by simp [hx])) (by intro x hx; simp at hx; rcases hx with hx | rfl; exact hAw x hx; exact ⟨w1, w2, w3, w4, w5⟩) (fun x hx => hBw x (by simp [hx])) (by rw [hls]; simp) (by rw [hN]; simp) semi.text sm2
    rw [List.length_append, List.length_cons, List.length_nil, htk, numS_append] at ih
    have hnum : numS [RSt.letS kw name eq e semi] = e.num := by simp [numS, RSt.num_let]
    rw [hnum] at ih
    rw [letsS, RSt.lets_let, RSt.num_let, List.singleton_append, pNamesL]
    simp only
    rw [hseg, names_tree ls _ e w4]
    have e1 : toksL (RSt.letS kw name eq e semi :: B ++ R) = kw :: name :: eq :: (e.toks ++ (semi :: toksL (B ++ R))) := by
      rw [List.cons_append, toksL_cons, RSt.toks, RSt.body_let]; simp [RSt.semi, RSt.letS]
    rw [e1, names_skip kw1 kw2, namesGo]
    have hs2 : (name.text == cSemi) = false := name_not_semi w2
    obtain ⟨t1, t2⟩ := thereN_no (there := (ls.take A.length).map (fun p => p.name.text)) (late := []) (t := name.text) (.inl hs2)
    rw [if_pos w2, t1, t2, letIx_lt ls name.text A.length (by omega)]
    have kwb : (kw.text == cLet) = true := by rw [w1]; decide
    rw [kwb]
    by_cases hx : letIx ls name.text < A.length
    · simp [hx]
    · have hd : (decide (letIx ls name.text < A.length) == true) = false := by simp [hx]
      rw [hd, if_neg (by simp), if_pos rfl, if_neg hx, names_skip eq1 eq2]
      obtain ⟨pv, g1, g2⟩ := names_expr ls A.length (by omega) name.text e.toks (e.plain w4) eq.text eq3 (semi :: toksL (B ++ R))
      rw [g2]
      cases namesToks ls A.length e.toks with
      | some q => rfl
      | none =>
        simp only
        obtain ⟨u1, u2⟩ := thereN_semi (there := (ls.take A.length).map (fun p => p.name.text)) (late := name.text) (t := semi.text) (by rw [w5]; rfl) (name_ne_nil w2)
        rw [namesGo, if_neg (by simp [sm1]), u1, u2, ih]
        simp
theorem names_same (L R : List RSt) (hL : isLetL' L) (hR : isRuleL' R) (hw : ∀ s ∈ L ++ R, s.wf) :
    namesGo [] [] [] (toksL (L ++ R)) = pNames (nodesS 0 (L ++ R)) (letsS 0 (L ++ R)) (rulesS 0 (L ++ R)) := by
  have h1 : letsS 0 (L ++ R) = letsS 0 ([] ++ L) := by rw [letsS_append, lets_none R hR, List.append_nil, List.nil_append]
  have h2 : rulesS 0 (L ++ R) = rulesS (numS L) R := by rw [rulesS_append, rules_none L hL, List.nil_append, Nat.zero_add]
  have := names_lets (nodesS 0 (L ++ R)) (letsS 0 (L ++ R)) R hR (fun s hs => hw s (by simp [hs])) L [] (fun s hs => by cases hs) hL (fun s hs => by cases hs) (fun s hs => hw s (by simp [hs])) h1 rfl [] (by decide)
  simp only [List.length_nil, List.take_zero, List.map_nil] at this
  rw [this, pNames, h2]
  congr 1
  rw [h1]
  rfl
end Go.Proofs.YtjjbmbjmdgoofaaGreatDoor
