/-
  Texts that are EXPRs by their making: tokens, trees, worth, kinds, parts.
-/
import Derived.Test.YtjjbmbjmdgoofaaGreatDoorB29
set_option linter.unusedVariables false
set_option linter.unusedSimpArgs false
namespace Go.Proofs.YtjjbmbjmdgoofaaGreatDoor
open Go.Deep
structure Ctx where
  c : List (Txt × Wo)
  kn : List (Txt × Nat)
  nms : List Txt
  ps : List (Txt × Nat)
  x : Itm
  y : Bn
structure Ctx.Ok (E : Ctx) : Prop where
  ps : ∀ q ∈ E.ps, nameT q.1 = true
def partSum (ps : List (Txt × Nat)) : List RTok → Nat
  | [] => 0
  | t :: r => partOne ps t.text + partSum ps r
theorem partSum_append (ps : List (Txt × Nat)) : ∀ a b : List RTok, partSum ps (a ++ b) = partSum ps a + partSum ps b
  | [], b => by simp [partSum]
  | t :: r, b => by rw [List.cons_append, partSum, partSum, partSum_append ps r b]; omega
theorem partsGo_sum (ps : List (Txt × Nat)) : ∀ (l : List RTok) (n : Nat), n + partSum ps l ≤ 150 → partsGo ps n l = n + partSum ps l
  | [], n, _ => by simp [partsGo, partSum]
  | t :: r, n, h => by
    rw [partSum] at h ⊢
    rw [partsGo, if_neg (by omega), partsGo_sum ps r _ (by omega)]
    omega
theorem partFold_no {t : Txt} : ∀ (ps : List (Txt × Nat)) (k : Nat), (∀ q ∈ ps, q.1 ≠ t) → partFold ps k t = k
  | [], k, _ => rfl
  | q :: r, k, h => by
    obtain ⟨n, s⟩ := q
    have : (n == t) = false := by
      cases hb : (n == t) with
      | false => rfl
      | true => exact absurd (beq_iff_eq.1 hb) (h (n, s) List.mem_cons_self)
    rw [partFold, this]
    exact partFold_no r k (fun q hq => h q (List.mem_cons_of_mem _ hq))
theorem Ctx.Ok.part {E : Ctx} (h : E.Ok) {t : Txt} (ht : nameT t = false) : partOne E.ps t = (if t == cOpen || t == cClose then 0 else 1) := by
  unfold partOne
  exact partFold_no _ _ (fun q hq e => by have := h.ps q hq; rw [e, ht] at this; cases this)
structure TreeAt (E : Ctx) (txt : Txt) (lev : Nat) (w : Wo) (kd dep prt pos : Nat) (t : Tr) : Prop where
  wf : t.wf
  lev : lev ≤ t.level
  toks : Toks txt pos t.toks
  wor : t.wor (lookW E.c) E.x E.y = w
  kind : kindT E.kn t = .ok kd
  may : ∀ a ∈ t.toks, mayT a.text = true
  nam : ∀ a ∈ t.toks, nameT a.text = true → a.text ∈ E.nms
  prt : partSum E.ps t.toks ≤ prt
  go : ∀ xx d, d + dep ≤ 8 → goS ⟨3, xx, d⟩ t.toks = .ok ⟨4, xx, d⟩
def IsP (E : Ctx) (txt : Txt) (lev : Nat) (w : Wo) (kd dep prt : Nat) : Prop := ∀ pos, ∃ t, TreeAt E txt lev w kd dep prt pos t
theorem IsP.mono {E : Ctx} {txt : Txt} {lev lev' : Nat} {w : Wo} {kd dep dep' prt prt' : Nat} (h : IsP E txt lev w kd dep prt) (h1 : lev' ≤ lev) (h2 : dep ≤ dep') (h3 : prt ≤ prt') : IsP E txt lev' w kd dep' prt' := fun pos => by
  obtain ⟨t, T⟩ := h pos
  exact ⟨t, T.wf, by have := T.lev; omega, T.toks, T.wor, T.kind, T.may, T.nam, by have := T.prt; omega, fun xx d hd => T.go xx d (by omega)⟩
theorem par_tree {E : Ctx} (hE : E.Ok) {s txt : Txt} {lev : Nat} {w : Wo} {kd dep prt pos at2 pos2 : Nat} {t : Tr} (T : TreeAt E s lev w kd dep prt pos2 t) (hk : Toks txt pos (⟨[40], pos⟩ :: (t.toks ++ [⟨[41], at2⟩]))) : TreeAt E txt 6 w kd (dep + 1) prt pos (Tr.par ⟨[40], pos⟩ t ⟨[41], at2⟩) := by
  refine ⟨⟨⟨rfl, rfl⟩, rfl, rfl, T.wf⟩, by rw [Tr.level_par]; omega, by rw [Tr.toks_par]; exact hk, by rw [Tr.wor_par]; exact T.wor, by rw [kindT_par]; exact T.kind, ?_, ?_, ?_, ?_⟩
  · intro a ha
    rw [Tr.toks_par] at ha
    simp only [List.mem_cons, List.mem_append, List.mem_singleton] at ha
    rcases ha with rfl | ha | rfl | ha
    · rfl
    · exact T.may a ha
    · rfl
    · cases ha
  · intro a ha hn
    rw [Tr.toks_par] at ha
    simp only [List.mem_cons, List.mem_append, List.mem_singleton] at ha
    rcases ha with rfl | ha | rfl | ha
    · exact absurd hn (show ¬ (nameT [40] = true) by decide)
    · exact T.nam a ha hn
    · exact absurd hn (show ¬ (nameT [41] = true) by decide)
    · cases ha
  · rw [Tr.toks_par, partSum, partSum_append, partSum, partSum]
    simp only
    rw [hE.part (t := [40]) (by decide), hE.part (t := [41]) (by decide)]
    have := T.prt
    simp only [show (([40] : Txt) == cOpen || ([40] : Txt) == cClose) = true by decide, show (([41] : Txt) == cOpen || ([41] : Txt) == cClose) = true by decide, if_true]
    omega
  · intro xx d hd
    rw [Tr.toks_par, goS_cons (value_open (a := ⟨[40], pos⟩) rfl xx d (by omega)), goS_ok (T.go xx (d + 1) (by omega))]
    rw [goS_cons (after_close (a := ⟨[41], at2⟩) rfl xx d)]
    rfl
theorem IsP.brack {E : Ctx} (hE : E.Ok) {s : Txt} {lev : Nat} {w : Wo} {kd dep prt : Nat} (h : IsP E s lev w kd dep prt) : IsP E (40 :: (s ++ [41])) 6 w kd (dep + 1) prt := fun pos => by
  obtain ⟨t, T⟩ := h (pos + 1)
  exact ⟨_, par_tree hE T (toks_brack T.toks)⟩
theorem IsP.brack2 {E : Ctx} (hE : E.Ok) {s : Txt} {lev : Nat} {w : Wo} {kd dep prt : Nat} (h : IsP E s lev w kd dep prt) : IsP E (40 :: 32 :: (s ++ [41])) 6 w kd (dep + 1) prt := fun pos => by
  obtain ⟨t, T⟩ := h (pos + 2)
  exact ⟨_, par_tree hE T (toks_brack2 T.toks)⟩
theorem un_tree {E : Ctx} (hE : E.Ok) {s txt o : Txt} {w : Wo} {kd kd' dep prt pos pos2 : Nat} {t : Tr} (ho : unT o = true) (hm : mayT o = true) (T : TreeAt E s 6 w kd dep prt pos2 t) (hk : Toks txt pos (⟨o, pos⟩ :: t.toks)) (hkd : madeT o kd kd = kd') (hk0 : kd' ≠ 0) : TreeAt E txt 6 (oneW (kindP o) w) kd' dep (prt + 1) pos (Tr.un ⟨o, pos⟩ t) := by
  have hno := un_no_name ho
  have hl6 : t.level = 6 := by have := T.lev; have := t.level_le; omega
  refine ⟨⟨⟨rfl, rfl, rfl⟩, ho, hl6, T.wf⟩, by rw [Tr.level_un]; omega, by rw [Tr.toks_un]; exact hk, by rw [Tr.wor_un, T.wor], ?_, ?_, ?_, ?_, ?_⟩
  · rw [kindT_un, T.kind]
    simp only
    rw [hkd, if_neg hk0]
  · intro a ha
    rw [Tr.toks_un] at ha
    rcases List.mem_cons.1 ha with rfl | ha
    · exact hm
    · exact T.may a ha
  · intro a ha hn
    rw [Tr.toks_un] at ha
    rcases List.mem_cons.1 ha with rfl | ha
    · rw [show nameT o = false from hno] at hn; cases hn
    · exact T.nam a ha hn
  · rw [Tr.toks_un, partSum]
    simp only
    rw [hE.part hno]
    have := T.prt
    split <;> omega
  · intro xx d hd
    rw [Tr.toks_un, goS_cons (value_un (a := ⟨o, pos⟩) ho xx d)]
    exact T.go xx d hd
theorem IsP.minus {E : Ctx} (hE : E.Ok) {s : Txt} {w : Wo} {dep prt : Nat} (h : IsP E s 6 w 1 dep prt) : IsP E (45 :: s) 6 (oneW 28 w) 1 dep (prt + 1) := fun pos => by
  obtain ⟨t, T⟩ := h (pos + 1)
  exact ⟨_, un_tree (o := cMinus) hE (by decide) (by decide) T (toks_sign (by decide) T.toks) (by decide) (by decide)⟩
theorem IsP.nott {E : Ctx} (hE : E.Ok) {s : Txt} {w : Wo} {dep prt : Nat} (h : IsP E s 6 w 2 dep prt) : IsP E (110 :: 111 :: 116 :: 32 :: s) 6 (oneW 9 w) 2 dep (prt + 1) := fun pos => by
  obtain ⟨t, T⟩ := h (pos + 4)
  have hk : Toks ([110, 111, 116] ++ 32 :: s) pos ([⟨[110, 111, 116], pos⟩] ++ t.toks) := toks_app (toks_one pos (by decide) (by decide) (by decide) (by decide)) (toks_blank1 T.toks) ⟨32, s, rfl, rfl⟩
  exact ⟨_, un_tree (o := cNot) hE (by decide) (by decide) T hk (by decide) (by decide)⟩
theorem IsP.two {E : Ctx} (hE : E.Ok) {a b op : Txt} {l1 l2 : Nat} {w1 w2 : Wo} {k1 k2 kd d1 d2 dep p1 p2 : Nat} (ha : IsP E a l1 w1 k1 d1 p1) (hb : IsP E b l2 w2 k2 d2 p2)
    (h0 : op ≠ []) (hbl : blankC (headC op) = false) (hl : runLen op = op.length) (hm : mayT op = true) (hp : 0 < bindsT op) (hc1 : op ≠ cOpen) (hc2 : op ≠ cClose) (hl1 : bindsT op ≤ l1) (hl2 : bindsT op < l2) (hkd : madeT op k1 k2 = kd) (hk0 : kd ≠ 0) (hd1 : d1 ≤ dep) (hd2 : d2 ≤ dep) :
    IsP E (a ++ 32 :: (op ++ 32 :: b)) (bindsT op) (binW (kindP op) w1 w2) kd dep (p1 + p2 + 1) := fun pos => by
  obtain ⟨t, T⟩ := ha pos
  obtain ⟨u, U⟩ := hb (pos + a.length + 1 + op.length + 1)
  have hno := bin_no_name hp
  have g1 := T.lev
  have g2 := U.lev
  refine ⟨Tr.bin ⟨op, pos + a.length + 1⟩ t u, ⟨⟨rfl, rfl⟩, hp, hc1, hc2, by show bindsT op ≤ t.level; omega, by show bindsT op < u.level; omega, T.wf, U.wf⟩, by rw [Tr.level_bin]; exact Nat.le_refl _, by rw [Tr.toks_bin]; exact toks_join T.toks h0 hbl hl hm U.toks, by rw [Tr.wor_bin, T.wor, U.wor], ?_, ?_, ?_, ?_, ?_⟩
  · rw [kindT_bin, T.kind, U.kind]
    simp only
    rw [hkd, if_neg hk0]
  · intro q hq
    rw [Tr.toks_bin, List.mem_append, List.mem_cons] at hq
    rcases hq with hq | rfl | hq
    · exact T.may q hq
    · exact hm
    · exact U.may q hq
  · intro q hq hn
    rw [Tr.toks_bin, List.mem_append, List.mem_cons] at hq
    rcases hq with hq | rfl | hq
    · exact T.nam q hq hn
    · rw [show nameT op = false from hno] at hn; cases hn
    · exact U.nam q hq hn
  · rw [Tr.toks_bin, partSum_append, partSum]
    simp only
    rw [hE.part hno]
    have := T.prt
    have := U.prt
    split <;> omega
  · intro xx d hd
    rw [Tr.toks_bin, goS_ok (T.go xx d (by omega)), goS_cons (after_joint (a := ⟨op, pos + a.length + 1⟩) hp xx d)]
    exact U.go xx d (by omega)
theorem IsP.leaf {E : Ctx} (hE : E.Ok) {t : Txt} {kd : Nat} (h0 : t ≠ []) (hbl : blankC (headC t) = false) (hl : runLen t = t.length) (hm : mayT t = true) (hs : singleT t = true) (ho : t ≠ cOpen) (hc : t ≠ cClose) (hu : unT t = false) (hb : bindsT t = 0)
    (hn : nameT t = false) (hk : leafKindT t = kd) : IsP E t 6 (leafW (lookW E.c) E.x E.y ⟨t, 0⟩) kd 0 1 := fun pos => by
  refine ⟨Tr.leaf ⟨t, pos⟩, ⟨⟨rfl, rfl, rfl, rfl⟩, hs, ho, hc, hu, hb⟩, by rw [Tr.level_leaf]; omega, toks_one pos h0 hbl hl hm, rfl, ?_, ?_, ?_, ?_, ?_⟩
  · rw [kindT_leaf]
    simp only
    rw [hn, hk]
    rfl
  · intro a ha
    rw [Tr.toks_leaf, List.mem_singleton] at ha
    rw [ha]; exact hm
  · intro a ha hh
    rw [Tr.toks_leaf, List.mem_singleton] at ha
    rw [ha] at hh
    rw [show nameT t = false from hn] at hh; cases hh
  · rw [Tr.toks_leaf, partSum, partSum]
    simp only
    rw [hE.part hn]
    split <;> omega
  · intro xx d hd
    rw [Tr.toks_leaf, goS_cons (value_leaf (a := ⟨t, pos⟩) hm hs xx d)]
    rfl
theorem IsP.named {E : Ctx} {t : Txt} {kd prt : Nat} {w : Wo} (h0 : t ≠ []) (hbl : blankC (headC t) = false) (hl : runLen t = t.length) (hm : mayT t = true) (hs : singleT t = true) (ho : t ≠ cOpen) (hc : t ≠ cClose) (hu : unT t = false) (hb : bindsT t = 0)
    (hn : nameT t = true) (hi : t ∈ E.nms) (hk : knownT E.kn t = kd) (hkk : kindP t = 2) (hw : lookW E.c t = w) (hp : partOne E.ps t ≤ prt) : IsP E t 6 w kd 0 prt := fun pos => by
  refine ⟨Tr.leaf ⟨t, pos⟩, ⟨⟨rfl, rfl, rfl, rfl⟩, hs, ho, hc, hu, hb⟩, by rw [Tr.level_leaf]; omega, toks_one pos h0 hbl hl hm, ?_, ?_, ?_, ?_, ?_, ?_⟩
  · rw [Tr.wor_leaf]
    unfold leafW
    simp only
    rw [if_pos hkk, hw]
  · rw [kindT_leaf]
    simp only
    rw [hn, if_pos rfl, hk]
  · intro a ha
    rw [Tr.toks_leaf, List.mem_singleton] at ha
    rw [ha]; exact hm
  · intro a ha hh
    rw [Tr.toks_leaf, List.mem_singleton] at ha
    rw [ha]; exact hi
  · rw [Tr.toks_leaf, partSum, partSum]
    exact hp
  · intro xx d hd
    rw [Tr.toks_leaf, goS_cons (value_leaf (a := ⟨t, pos⟩) hm hs xx d)]
    rfl
end Go.Proofs.YtjjbmbjmdgoofaaGreatDoor
namespace Go.Proofs.YtjjbmbjmdgoofaaGreatDoor
open Go.Deep
def actB : Option Txt → Txt
  | none => cReject
  | some e => cScore ++ 32 :: e
def ruleB (wh sc : Option Txt) : Txt := match wh with
  | none => actB sc
  | some w => cWhen ++ 32 :: (w ++ 32 :: actB sc)
def ToksH (t : Txt) (pos : Nat) (l : List RTok) : Prop := ∀ rest, toksR (t ++ rest) pos = preR l (toksR rest (pos + t.length))
theorem toksH_semi {a : Txt} {pos : Nat} {l : List RTok} (h : Toks a pos l) : ToksH (a ++ [59]) pos (l ++ [⟨cSemi, pos + a.length⟩]) := fun rest => by
  rw [List.append_assoc, List.singleton_append, h (59 :: rest) rfl, toks_hard (by decide), preR_app, List.length_append, Nat.add_assoc]
  rfl
theorem toksH_app {a b : Txt} {pos : Nat} {l m : List RTok} (ha : ToksH a pos l) (hb : ToksH b (pos + a.length) m) : ToksH (a ++ b) pos (l ++ m) := fun rest => by
  rw [List.append_assoc, ha, hb, preR_app, List.length_append, Nat.add_assoc]
theorem toksH_nil (pos : Nat) : ToksH [] pos [] := fun rest => by rw [preR_nil]; rfl
def actO : Option Wo → Nat × Int × Nat
  | none => (0, 0, 1)
  | some e => if e.flt ≠ 0 then (2, (e.flt : Int), e.steps) else (1, e.v, e.steps + 1)
def sayO (wh sc : Option Wo) (rest : Nat × Int × Nat) : Nat × Int × Nat := match wh with
  | none => actO sc
  | some w =>
    if w.flt ≠ 0 then (2, (w.flt : Int), w.steps)
    else if w.v = 0 then (rest.1, rest.2.1, whenW w + rest.2.2)
    else ((actO sc).1, (actO sc).2.1, whenW w + (actO sc).2.2)
structure RuleOf (E : Ctx) (txt : Txt) (wh sc : Option Wo) (prt pos : Nat) (s : RSt) : Prop where
  wf : s.wf
  rule : s.isLet = false
  toks : ToksH txt pos s.toks
  may : ∀ a ∈ s.toks, mayT a.text = true
  nam : ∀ a ∈ s.toks, nameT a.text = true → a.text ∈ E.nms
  nolet : ∀ a ∈ s.toks, a.text ≠ cLet
  say : ∀ r, sayW (lookW E.c) E.x E.y (s :: r) = sayO wh sc (sayW (lookW E.c) E.x E.y r)
  kinds : ∀ r, rulesK E.kn (s :: r) = rulesK E.kn r
  parts : ∀ r, rulePartsGo E.ps (s :: r) ≤ prt + rulePartsGo E.ps r
  go : ∀ p, RuleAt p → ∃ q, goS p s.toks = .ok q ∧ RuleAt q ∧ q.next = 6
def IsO (E : Ctx) (o : Option (Txt × Wo)) (kd prt : Nat) : Prop := ∀ p, o = some p → IsP E p.1 1 p.2 kd 8 prt
theorem act_tree {E : Ctx} {o : Option (Txt × Wo)} {prt : Nat} (h : IsO E o 1 prt) (hp : prt ≤ 150) (pos : Nat) : ∃ (act : RTok) (sc : Option Tr), act.text = (if sc.isSome then cScore else cReject) ∧ (∀ e, sc = some e → e.wf) ∧ Toks (actB (o.map Prod.fst)) pos (act :: optToks sc) ∧
    (∀ a ∈ optToks sc, mayT a.text = true) ∧ (∀ a ∈ optToks sc, nameT a.text = true → a.text ∈ E.nms) ∧ actW (lookW E.c) E.x E.y sc = actO (o.map Prod.snd) ∧ exprK E.kn 1 sc = none ∧ partsGo E.ps 0 (optToks sc) ≤ prt ∧
    (∀ (p : Spot) (b : Bool) (semi : RTok), semi.text = cSemi → p.opn = 0 → (stepS p act.text = ruleS p act.text b) → ∃ q, goS p ((act :: optToks sc) ++ [semi]) = .ok q ∧ RuleAt q ∧ q.next = 6) := by
  cases o with
  | none =>
    refine ⟨⟨cReject, pos⟩, none, rfl, (fun e he => by cases he), toks_one pos (by decide) (by decide) (by decide) (by decide), (fun a ha => by cases ha), (fun a ha => by cases ha), rfl, rfl, Nat.zero_le _, ?_⟩
    intro p b semi hs ho hst
    refine ⟨⟨6, p.expr, 0⟩, ?_, ⟨.inr rfl, rfl⟩, rfl⟩
    show goS p [⟨cReject, pos⟩, semi] = _
    rw [goS_cons (hst.trans (ruleS_rej rfl ho))]
    exact goS_cons (rej_end hs)
  | some q =>
    obtain ⟨e, w⟩ := q
    obtain ⟨t, T⟩ := h (e, w) rfl (pos + 6)
    have hpt := T.prt
    refine ⟨⟨cScore, pos⟩, some t, rfl, (fun e he => by cases he; exact T.wf), ?_, T.may, T.nam, ?_, ?_, ?_, ?_⟩
    · exact toks_app (l := [⟨cScore, pos⟩]) (toks_one pos (by decide) (by decide) (by decide) (by decide)) (toks_blank1 T.toks) ⟨32, e, rfl, rfl⟩
    · show (if (t.wor (lookW E.c) E.x E.y).flt ≠ 0 then _ else _) = _
      rw [T.wor]
      rfl
    · show (match kindT E.kn t with | .error p => some p | .ok k => if k = 1 then none else some (firstAt t)) = none
      rw [T.kind]
      rfl
    · show partsGo E.ps 0 t.toks ≤ prt
      rw [partsGo_sum _ _ _ (by omega)]
      omega
    · intro p b semi hs ho hst
      refine ⟨⟨6, 2, 0⟩, ?_, ⟨.inr rfl, rfl⟩, rfl⟩
      show goS p (⟨cScore, pos⟩ :: (t.toks ++ [semi])) = _
      rw [goS_cons (hst.trans (ruleS_score rfl ho)), goS_ok (T.go 2 0 (by omega))]
      exact goS_cons (score_end hs)
theorem rule_tree {E : Ctx} {wh sc : Option (Txt × Wo)} {p1 p2 : Nat} (hw : IsO E wh 2 p1) (hs : IsO E sc 1 p2) (h1 : p1 ≤ 150) (h2 : p2 ≤ 150) (pos : Nat) : ∃ s, RuleOf E (ruleB (wh.map Prod.fst) (sc.map Prod.fst) ++ [59]) (wh.map Prod.snd) (sc.map Prod.snd) (p1 + p2) pos s := by
  cases wh with
  | none =>
    obtain ⟨act, t, a1, a2, a3, a4, a5, a6, a7, a8, a9⟩ := act_tree hs h2 pos
    have hact : act.text = cScore ∨ act.text = cReject := by rw [a1]; split <;> simp
    have hne : act.text ≠ cLet ∧ nameT act.text = false ∧ mayT act.text = true := by rcases hact with h | h <;> rw [h] <;> decide
    have hwf : (RSt.rule none act t ⟨cSemi, pos + (actB (sc.map Prod.fst)).length⟩).wf := ⟨(fun k e he => by cases he), a1, a2, rfl⟩
    have htk : (RSt.rule none act t ⟨cSemi, pos + (actB (sc.map Prod.fst)).length⟩).toks = (act :: optToks t) ++ [⟨cSemi, pos + (actB (sc.map Prod.fst)).length⟩] := rfl
    have hpl : ∀ a ∈ optToks t, plainE a.text := opt_plain t a2
    refine ⟨_, hwf, rfl, by rw [htk]; exact toksH_semi a3, ?_, ?_, ?_, ?_, ?_, ?_, ?_⟩
    · intro a ha
      rw [htk] at ha
      simp only [List.mem_append, List.mem_cons, List.mem_singleton] at ha
      rcases ha with (rfl | ha) | rfl | ha
      · exact hne.2.2
      · exact a4 a ha
      · rfl
      · cases ha
    · intro a ha hn
      rw [htk] at ha
      simp only [List.mem_append, List.mem_cons, List.mem_singleton] at ha
      rcases ha with (rfl | ha) | rfl | ha
      · rw [hne.2.1] at hn; cases hn
      · exact a5 a ha hn
      · exact absurd hn (show ¬ (nameT cSemi = true) by decide)
      · cases ha
    · intro a ha
      rw [htk] at ha
      simp only [List.mem_append, List.mem_cons, List.mem_singleton] at ha
      rcases ha with (rfl | ha) | rfl | ha
      · exact hne.1
      · exact (hpl a ha).2.1
      · exact (show cSemi ≠ cLet by decide)
      · cases ha
    · intro r
      rw [sayW_rule]
      exact a6
    · intro r
      rw [rulesK_n rfl a7]
    · intro r
      rw [rulePartsGo_rule]
      have : partsGo E.ps 0 (optToks (Option.map Prod.snd (none : Option (RTok × Tr)))) = 0 := rfl
      omega
    · intro p hp
      rw [htk]
      exact a9 p true _ rfl hp.2 (rule_step hp fun _ => hne.1)
  | some q =>
    obtain ⟨w, ww⟩ := q
    obtain ⟨u, U⟩ := hw (w, ww) rfl (pos + 5)
    obtain ⟨act, t, a1, a2, a3, a4, a5, a6, a7, a8, a9⟩ := act_tree hs h2 (pos + 5 + w.length + 1)
    have hact : act.text = cScore ∨ act.text = cReject := by rw [a1]; split <;> simp
    have hne : act.text ≠ cLet ∧ nameT act.text = false ∧ mayT act.text = true ∧ jointT act.text = false := by rcases hact with h | h <;> rw [h] <;> decide
    generalize hat : pos + (ruleB (some w) (sc.map Prod.fst)).length = at2
    have hwf : (RSt.rule (some (⟨cWhen, pos⟩, u)) act t ⟨cSemi, at2⟩).wf := ⟨(fun k e he => by cases he; exact ⟨rfl, U.wf⟩), a1, a2, rfl⟩
    have htk : (RSt.rule (some (⟨cWhen, pos⟩, u)) act t ⟨cSemi, at2⟩).toks = ([⟨cWhen, pos⟩] ++ (u.toks ++ (act :: optToks t))) ++ [⟨cSemi, at2⟩] := by
      show (whToks (some (⟨cWhen, pos⟩, u)) ++ act :: optToks t) ++ [_] = _
      rw [show whToks (some ((⟨cWhen, pos⟩ : RTok), u)) = ⟨cWhen, pos⟩ :: u.toks from rfl]
      simp
      rfl
    have hpl : ∀ a ∈ optToks t, plainE a.text := opt_plain t a2
    have hpu : ∀ a ∈ u.toks, plainE a.text := u.plain U.wf
    have hmem : ∀ a ∈ (RSt.rule (some (⟨cWhen, pos⟩, u)) act t ⟨cSemi, at2⟩).toks, a = ⟨cWhen, pos⟩ ∨ a ∈ u.toks ∨ a = act ∨ a ∈ optToks t ∨ a = ⟨cSemi, at2⟩ := by
      intro a ha
      rw [htk] at ha
      simp only [List.mem_append, List.mem_cons, List.mem_nil_iff, or_false] at ha
      rcases ha with (ha | ha | ha | ha) | ha
      · exact .inl ha
      · exact .inr (.inl ha)
      · exact .inr (.inr (.inl ha))
      · exact .inr (.inr (.inr (.inl ha)))
      · exact .inr (.inr (.inr (.inr ha)))
    refine ⟨_, hwf, rfl, ?_, ?_, ?_, ?_, ?_, ?_, ?_, ?_⟩
    · rw [htk, ← hat]
      exact toksH_semi (toks_app (toks_one pos (by decide) (by decide) (by decide) (by decide)) (toks_blank1 (toks_app U.toks (toks_blank1 a3) ⟨32, _, rfl, rfl⟩)) ⟨32, _, rfl, rfl⟩)
    · intro a ha
      rcases hmem a ha with rfl | ha | rfl | ha | rfl
      · rfl
      · exact U.may a ha
      · exact hne.2.2.1
      · exact a4 a ha
      · rfl
    · intro a ha hn
      rcases hmem a ha with rfl | ha | rfl | ha | rfl
      · exact absurd hn (show ¬ (nameT cWhen = true) by decide)
      · exact U.nam a ha hn
      · rw [hne.2.1] at hn; cases hn
      · exact a5 a ha hn
      · exact absurd hn (show ¬ (nameT cSemi = true) by decide)
    · intro a ha
      rcases hmem a ha with rfl | ha | rfl | ha | rfl
      · exact (show cWhen ≠ cLet by decide)
      · exact (hpu a ha).2.1
      · exact hne.1
      · exact (hpl a ha).2.1
      · exact (show cSemi ≠ cLet by decide)
    · intro r
      rw [sayW_rule]
      unfold sayD sayO
      simp only [Option.map_some]
      rw [U.wor, a6]
    · intro r
      refine rulesK_n ?_ a7
      show (match kindT E.kn u with | .error p => some p | .ok k => if k = 2 then none else some (firstAt u)) = none
      rw [U.kind]
      rfl
    · intro r
      rw [rulePartsGo_rule]
      have h3 : partsGo E.ps 0 (optToks (Option.map Prod.snd (some ((⟨cWhen, pos⟩ : RTok), u)))) ≤ p1 := by
        show partsGo E.ps 0 u.toks ≤ p1
        have := U.prt
        rw [partsGo_sum _ _ _ (by omega)]
        omega
      omega
    · intro p hp
      obtain ⟨q, hq1, hq2, hq3⟩ := a9 ⟨4, 1, 0⟩ false ⟨cSemi, at2⟩ rfl rfl (when_rule hne.2.2.2)
      refine ⟨q, ?_, hq2, hq3⟩
      rw [htk, List.append_assoc, List.singleton_append, goS_cons ((rule_step hp fun _ => (show cWhen ≠ cLet by decide)).trans (ruleS_when rfl hp.2)), List.append_assoc, goS_ok (U.go 1 0 (by omega))]
      exact hq1
end Go.Proofs.YtjjbmbjmdgoofaaGreatDoor
