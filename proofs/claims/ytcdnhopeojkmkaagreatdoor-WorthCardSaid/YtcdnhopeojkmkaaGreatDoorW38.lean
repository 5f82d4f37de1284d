/-
  Policies by their making, with a let or without.
-/
import Derived.Test.YtcdnhopeojkmkaaGreatDoorW37
import Derived.Test.YtcdnhopeojkmkaaGreatDoorW21
import Derived.Test.YtcdnhopeojkmkaaGreatDoorW08
import Derived.BigQuiet
set_option linter.unusedVariables false
set_option linter.unusedSimpArgs false
namespace Go.Proofs.YtcdnhopeojkmkaaGreatDoor
open Go.Deep
def cKk : Txt := [107, 107]
def letT (e : Txt) : Txt := cLet ++ 32 :: (cKk ++ 32 :: (cEq ++ 32 :: e))
def ctx0 (x : Itm) (y : Bn) : Ctx := ⟨[], [], [], [], x, y⟩
def ctx1 (x : Itm) (y : Bn) (w : Wo) (n : Nat) : Ctx := ⟨[(cKk, w)], [(cKk, 1)], [cKk], [(cKk, n)], x, y⟩
theorem ctx0_ok (x : Itm) (y : Bn) : (ctx0 x y).Ok := ⟨fun q hq => by cases hq⟩
theorem ctx1_ok (x : Itm) (y : Bn) (w : Wo) (n : Nat) : (ctx1 x y w n).Ok := ⟨fun q hq => by
  rw [List.mem_singleton.1 hq]
  exact (show nameT cKk = true by decide)⟩
theorem kk_is (x : Itm) (y : Bn) (w : Wo) (n : Nat) : IsP (ctx1 x y w n) cKk 6 w 1 0 n :=
  IsP.named (by decide) (by decide) (by decide) (by decide) (by decide) (by decide) (by decide) (by decide) (by decide) (by decide) (List.mem_singleton.2 rfl) rfl (by decide) rfl (Nat.le_of_eq rfl)
theorem made_none {rs : List MadeR} {x : Itm} {y : Bn} (hr : ∀ r ∈ rs, IsO (ctx0 x y) r.1 2 25 ∧ IsO (ctx0 x y) r.2 1 50) (hne : rs ≠ []) (h2 : rs.length ≤ 2) (hlen : (rulesT rs).length ≤ 400) : ∃ L R, FineP (rulesT rs) x y (rulesO rs) L R := by
  obtain ⟨R, hRl, HR, hgo⟩ := rules_tree rs hr 0
  refine ⟨[], R, fine_of (fun s h => by cases h) HR.rules (by simpa using HR.wf) hlen ?_ ?_ ?_ (by simpa using HR.may) ?_ ?_ ?_ ?_⟩
  · have := HR.toks []
    rw [List.append_nil] at this
    rw [this, toksR_nil]
    simp [preR]
  · obtain ⟨q, q1, q2, q3⟩ := hgo ⟨0, 0, 0⟩ ⟨.inl rfl, rfl⟩
    exact ⟨q, by rw [List.nil_append]; exact q1, q3 hne⟩
  · intro h
    rw [h] at hRl
    exact hne (List.length_eq_zero_iff.1 hRl.symm)
  · rw [List.nil_append]
    exact names_fine _ _ (by decide) HR.nolet HR.nam
  · exact HR.kinds
  · unfold bigT
    have := HR.parts
    have e : rulePartsGo (sizesGo [] []) R = rulePartsGo (ctx0 x y).ps R := rfl
    rw [e]
    exact decide_eq_false (by omega)
  · exact HR.say
theorem names_pass {there : List Txt} {late : Txt} (r : List RTok) : ∀ (l : List RTok) (prev : Txt), (∀ a ∈ l, nameT a.text = false ∧ a.text ≠ cSemi) → ∃ prev', namesGo there late prev (l ++ r) = namesGo there late prev' r
  | [], prev, _ => ⟨prev, rfl⟩
  | t :: l, prev, h => by
    obtain ⟨h1, h2⟩ := h t List.mem_cons_self
    obtain ⟨p', hp⟩ := names_pass r l t.text (fun a ha => h a (List.mem_cons_of_mem _ ha))
    exact ⟨p', by rw [List.cons_append, names_skip h1 h2]; exact hp⟩
theorem made_some {rs : List MadeR} {x : Itm} {y : Bn} {e : Txt} {w : Wo} (hl : IsP (ctx0 x y) e 1 w 1 8 6) (hr : ∀ n, n ≤ 6 → ∀ r ∈ rs, IsO (ctx1 x y w n) r.1 2 25 ∧ IsO (ctx1 x y w n) r.2 1 50) (hne : rs ≠ []) (h2 : rs.length ≤ 2) (hlen : ((letT e ++ [59]) ++ rulesT rs).length ≤ 400) :
    ∃ L R, FineP ((letT e ++ [59]) ++ rulesT rs) x y (rulesO rs) L R := by
  obtain ⟨t, T⟩ := hl 9
  have hprt := T.prt
  have hpg : partsGo [] 0 t.toks ≤ 6 := by
    rw [partsGo_sum [] t.toks 0 (by have : partSum [] t.toks ≤ 6 := hprt; omega)]
    have : partSum [] t.toks ≤ 6 := hprt
    omega
  obtain ⟨R, hRl, HR, hgo⟩ := rules_tree rs (hr _ hpg) (0 + (letT e ++ [59]).length)
  have hpl := t.plain T.wf
  have hnn : ∀ a ∈ t.toks, nameT a.text = false := fun a ha => by
    cases h : nameT a.text with
    | false => rfl
    | true => exact absurd (T.nam a ha h) (by simp [ctx0])
  have htk : Toks (letT e) 0 ([⟨cLet, 0⟩] ++ ([⟨cKk, 4⟩] ++ ([⟨cEq, 7⟩] ++ t.toks))) :=
    toks_app (toks_one 0 (by decide) (by decide) (by decide) (by decide)) (toks_blank1 (toks_app (toks_one 4 (by decide) (by decide) (by decide) (by decide)) (toks_blank1 (toks_app (toks_one 7 (by decide) (by decide) (by decide) (by decide)) (toks_blank1 T.toks) ⟨32, _, rfl, rfl⟩)) ⟨32, _, rfl, rfl⟩)) ⟨32, _, rfl, rfl⟩
  generalize hat : 0 + (letT e).length = at2
  have htkL : toksL [RSt.letS ⟨cLet, 0⟩ ⟨cKk, 4⟩ ⟨cEq, 7⟩ t ⟨cSemi, at2⟩] = ([⟨cLet, 0⟩] ++ ([⟨cKk, 4⟩] ++ ([⟨cEq, 7⟩] ++ t.toks))) ++ [⟨cSemi, at2⟩] := by
    rw [toksL_cons]
    show (_ ++ _) ++ toksL [] = _
    rw [show toksL [] = ([] : List RTok) from rfl, List.append_nil]
    rfl
  refine ⟨[RSt.letS ⟨cLet, 0⟩ ⟨cKk, 4⟩ ⟨cEq, 7⟩ t ⟨cSemi, at2⟩], R, fine_of ?_ HR.rules ?_ hlen ?_ ?_ ?_ ?_ ?_ ?_ ?_ ?_⟩
  · intro s hs
    rw [List.mem_singleton.1 hs]
    rfl
  · intro s hs
    rcases List.mem_append.1 hs with hs | hs
    · rw [List.mem_singleton.1 hs]
      exact ⟨rfl, (show nameT cKk = true by decide), rfl, T.wf, rfl⟩
    · exact HR.wf s hs
  · rw [toksL_append, htkL]
    have h1 := toksH_app (toksH_semi htk) HR.toks []
    rw [List.append_nil, toksR_nil, hat] at h1
    rw [h1]
    simp [preR]
  · obtain ⟨q, q1, q2, q3⟩ := hgo ⟨0, 0, 0⟩ ⟨.inl rfl, rfl⟩
    refine ⟨q, ?_, q3 hne⟩
    rw [toksL_append, htkL]
    simp only [List.singleton_append, List.cons_append, List.append_assoc, List.nil_append]
    rw [goS_cons (let_one rfl), goS_cons (t := ⟨cKk, 4⟩) (let_two (show nameT cKk = true by decide)), goS_cons (let_three rfl), goS_ok (T.go 0 0 (by omega)), goS_cons (let_end rfl)]
    exact q1
  · intro h
    rw [h] at hRl
    exact hne (List.length_eq_zero_iff.1 hRl.symm)
  · intro a ha
    rw [toksL_append, htkL] at ha
    simp only [List.mem_append, List.mem_cons, List.mem_nil_iff, or_false] at ha
    rcases ha with ((rfl | rfl | rfl | ha) | rfl) | ha
    · exact (show mayT cLet = true by decide)
    · exact (show mayT cKk = true by decide)
    · exact (show mayT cEq = true by decide)
    · exact T.may a ha
    · exact (show mayT cSemi = true by decide)
    · exact HR.may a ha
  · rw [toksL_append, htkL]
    simp only [List.singleton_append, List.cons_append, List.append_assoc, List.nil_append]
    rw [names_skip (show nameT cLet = false by decide) (show cLet ≠ cSemi by decide)]
    have e1 : namesGo [] [] cLet (⟨cKk, 4⟩ :: ⟨cEq, 7⟩ :: (t.toks ++ (⟨cSemi, at2⟩ :: toksL R))) = namesGo [] cKk cKk (⟨cEq, 7⟩ :: (t.toks ++ (⟨cSemi, at2⟩ :: toksL R))) := by
      rw [namesGo]
      rfl
    show namesGo [] [] cLet _ = none
    rw [e1, names_skip (show nameT cEq = false by decide) (show cEq ≠ cSemi by decide)]
    obtain ⟨pr, hpr⟩ := names_pass (there := []) (late := cKk) (⟨cSemi, at2⟩ :: toksL R) t.toks cEq (fun a ha => ⟨hnn a ha, (hpl a ha).1⟩)
    show namesGo [] cKk cEq _ = none
    rw [hpr]
    have e2 : namesGo [] cKk pr (⟨cSemi, at2⟩ :: toksL R) = namesGo [cKk] [] cSemi (toksL R) := by
      rw [namesGo]
      rfl
    rw [e2]
    exact names_fine _ _ (by decide) HR.nolet HR.nam
  · have : letsK [] [RSt.letS ⟨cLet, 0⟩ ⟨cKk, 4⟩ ⟨cEq, 7⟩ t ⟨cSemi, at2⟩] = .ok [(cKk, 1)] := by
      rw [letsK_ok (show kindT [] t = .ok 1 from T.kind)]
      rfl
    rw [wrongT_ok this]
    exact HR.kinds
  · unfold bigT
    have := HR.parts
    have e : rulePartsGo (sizesGo [] [RSt.letS ⟨cLet, 0⟩ ⟨cKk, 4⟩ ⟨cEq, 7⟩ t ⟨cSemi, at2⟩]) R = rulePartsGo (ctx1 x y w (partsGo [] 0 t.toks)).ps R := rfl
    rw [e]
    exact decide_eq_false (by omega)
  · unfold saysP
    have e : envS x y [] [RSt.letS ⟨cLet, 0⟩ ⟨cKk, 4⟩ ⟨cEq, 7⟩ t ⟨cSemi, at2⟩] = [(cKk, t.wor (lookW []) x y)] := rfl
    rw [e, show t.wor (lookW []) x y = w from T.wor]
    exact HR.say
end Go.Proofs.YtcdnhopeojkmkaaGreatDoor
namespace Go.Proofs.YtcdnhopeojkmkaaGreatDoor
open Go.RowKit
end Go.Proofs.YtcdnhopeojkmkaaGreatDoor
namespace Go.Proofs.YtcdnhopeojkmkaaGreatDoor
open Go.RowKit
end Go.Proofs.YtcdnhopeojkmkaaGreatDoor
namespace Go.Proofs.YtcdnhopeojkmkaaGreatDoor
open Go.RowKit
theorem quo_fine (a b : Int) (ha : In64 a) (hb : In64 b) (h0 : a ≠ 0) (h1 : ¬ (a = -1 ∧ b = -9223372036854775808)) : wrap64 ((wrap64 (a * b)).tdiv a) = (wrap64 (a * b)).tdiv a := by
  refine wrap64_eq (tdiv_in _ a ?_ ha h0 ?_)
  · rw [← wmul]; exact in_wrap _
  · rintro ⟨h2, h3⟩
    refine h1 ⟨h3, ?_⟩
    rw [h3] at h2
    unfold In64 at hb
    unfold wrap64 at h2
    omega
end Go.Proofs.YtcdnhopeojkmkaaGreatDoor
namespace Go.Proofs.YtcdnhopeojkmkaaGreatDoor
open Go.RowKit
set_option maxHeartbeats 2000000 in
theorem crossed_any (a b : Int) (ha : In64 a) (hb : In64 b) (w : World) :
    Calls Tryz.prog 106 #[.int .i64 a, .int .i64 b] w fun e w' => (∃ c : Int, e = .returned (.tuple #[.int .i64 c, .bool (decide (In64 (a * b)))]) ∧ (In64 (a * b) → c = a * b)) ∧ Below w.heap.size w w' := by
  have HA := Hid.mk2 ha
  have HB := Hid.mk2 hb
  obtain ⟨a1, a2⟩ := ha
  obtain ⟨b1, b2⟩ := hb
  by_cases h0 : a = 0
  · subst h0
    have e : decide (In64 (0 * b)) = true := by rw [Int.zero_mul]; decide
    rw [e]
    go_enter Tryz.func106, Tryz.ntmps106
    go_wp2
    all_goals go_ret2
    all_goals exact ⟨⟨0, rfl, fun _ => (Int.zero_mul b).symm⟩, Below.refl _ _⟩
  have ea : (a == 0) = false := by simpa using h0
  by_cases h1 : b = 0
  · subst h1
    have e : decide (In64 (a * 0)) = true := by rw [Int.mul_zero]; decide
    rw [e]
    go_enter Tryz.func106, Tryz.ntmps106
    go_wp2
    all_goals go_ret2
    all_goals exact ⟨⟨0, rfl, fun _ => (Int.mul_zero a).symm⟩, Below.refl _ _⟩
  have eb : (b == 0) = false := by simpa using h1
  by_cases h2 : a = -9223372036854775808 ∧ b = -1
  · obtain ⟨rfl, rfl⟩ := h2
    have e : decide (In64 (-9223372036854775808 * -1)) = false := by decide
    rw [e]
    go_enter Tryz.func106, Tryz.ntmps106
    go_wp2
    all_goals go_ret2
    all_goals exact ⟨⟨0, rfl, fun h => absurd h (by decide)⟩, Below.refl _ _⟩
  by_cases h3 : b = -9223372036854775808 ∧ a = -1
  · obtain ⟨rfl, rfl⟩ := h3
    have e : decide (In64 (-1 * -9223372036854775808)) = false := by decide
    rw [e]
    go_enter Tryz.func106, Tryz.ntmps106
    go_wp2
    all_goals go_ret2
    all_goals exact ⟨⟨0, rfl, fun h => absurd h (by decide)⟩, Below.refl _ _⟩
  have q1 := quo_fine a b HA.out HB.out h0 (fun h => h3 ⟨h.2, h.1⟩)
  have q2 := quo_fine b a HB.out HA.out h1 (fun h => h2 ⟨h.2, h.1⟩)
  have m1 := mul_test b a HB.out HA.out h0
  have m2 := mul_test a b HA.out HB.out h1
  rw [wmul] at m1 m2
  rw [Int.mul_comm b a] at m1 q2
  have g1 : (wrap64 ((wrap64 (a * b)).tdiv a) == b) = decide (In64 (a * b)) := by
    rw [q1, beq_dec]
    simp only [m1]
  have g2 : (wrap64 ((wrap64 (a * b)).tdiv b) == a) = decide (In64 (a * b)) := by
    rw [q2, beq_dec]
    simp only [m2]
  have g3 : Hid (In64 (a * b) → wrap64 (a * b) = a * b) := fun h => wrap64_eq h
  have t2 : ((a == -9223372036854775808) && (b == -1)) = false := by
    rw [beq_dec, beq_dec]; simp; exact fun h h' => h2 ⟨h, h'⟩
  have t3 : ((b == -9223372036854775808) && (a == -1)) = false := by
    rw [beq_dec, beq_dec]; simp; exact fun h h' => h3 ⟨h, h'⟩
  clear q1 q2 m1 m2 h2 h3
  by_cases hi : In64 (a * b)
  · have e : decide (In64 (a * b)) = true := by simpa using hi
    rw [e] at g1 g2 ⊢
    have k1 : (IntKind.i64.wrap ((wrap64 (a * b)).tdiv a) == b) = true := by rw [IntWalk.i64_left]; exact g1
    have k2 : (IntKind.i64.wrap ((wrap64 (a * b)).tdiv b) == a) = true := by rw [IntWalk.i64_left]; exact g2
    have G := Hid.mk2 (g3.out hi)
    clear hi g3 e
    cases eA : (a == -9223372036854775808) <;> cases eB : (b == -9223372036854775808)
    · clear t2 t3
      go_enter Tryz.func106, Tryz.ntmps106
      go_wp2
      go_quiet (fail)
      go_wp2
      go_ret2
      exact ⟨⟨_, rfl, fun _ => G.out⟩, below_drewN (Below.refl _ w) _⟩
    · have n2 : (a == -1) = false := by rw [eB] at t3; simpa using t3
      clear t2 t3
      go_enter Tryz.func106, Tryz.ntmps106
      go_wp2
      go_quiet (fail)
      go_wp2
      go_ret2
      exact ⟨⟨_, rfl, fun _ => G.out⟩, below_drewN (Below.refl _ w) _⟩
    · have n1 : (b == -1) = false := by rw [eA] at t2; simpa using t2
      clear t2 t3
      go_enter Tryz.func106, Tryz.ntmps106
      go_wp2
      go_quiet (fail)
      go_wp2
      go_ret2
      exact ⟨⟨_, rfl, fun _ => G.out⟩, below_drewN (Below.refl _ w) _⟩
    · have n1 : (b == -1) = false := by rw [eA] at t2; simpa using t2
      have n2 : (a == -1) = false := by rw [eB] at t3; simpa using t3
      clear t2 t3
      go_enter Tryz.func106, Tryz.ntmps106
      go_wp2
      go_quiet (fail)
      go_wp2
      go_ret2
      exact ⟨⟨_, rfl, fun _ => G.out⟩, below_drewN (Below.refl _ w) _⟩
  · have e : decide (In64 (a * b)) = false := by simpa using hi
    rw [e] at g1 g2 ⊢
    have k1 : (IntKind.i64.wrap ((wrap64 (a * b)).tdiv a) == b) = false := by rw [IntWalk.i64_left]; exact g1
    have k2 : (IntKind.i64.wrap ((wrap64 (a * b)).tdiv b) == a) = false := by rw [IntWalk.i64_left]; exact g2
    have G := Hid.mk2 hi
    clear hi g3 e
    cases eA : (a == -9223372036854775808) <;> cases eB : (b == -9223372036854775808)
    · clear t2 t3
      go_enter Tryz.func106, Tryz.ntmps106
      go_wp2
      go_quiet (fail)
      go_wp2
      go_ret2
      exact ⟨⟨_, rfl, fun h => absurd h G.out⟩, below_drewN (Below.refl _ w) _⟩
    · have n2 : (a == -1) = false := by rw [eB] at t3; simpa using t3
      clear t2 t3
      go_enter Tryz.func106, Tryz.ntmps106
      go_wp2
      go_quiet (fail)
      go_wp2
      go_ret2
      exact ⟨⟨_, rfl, fun h => absurd h G.out⟩, below_drewN (Below.refl _ w) _⟩
    · have n1 : (b == -1) = false := by rw [eA] at t2; simpa using t2
      clear t2 t3
      go_enter Tryz.func106, Tryz.ntmps106
      go_wp2
      go_quiet (fail)
      go_wp2
      go_ret2
      exact ⟨⟨_, rfl, fun h => absurd h G.out⟩, below_drewN (Below.refl _ w) _⟩
    · have n1 : (b == -1) = false := by rw [eA] at t2; simpa using t2
      have n2 : (a == -1) = false := by rw [eB] at t3; simpa using t3
      clear t2 t3
      go_enter Tryz.func106, Tryz.ntmps106
      go_wp2
      go_quiet (fail)
      go_wp2
      go_ret2
      exact ⟨⟨_, rfl, fun h => absurd h G.out⟩, below_drewN (Below.refl _ w) _⟩
end Go.Proofs.YtcdnhopeojkmkaaGreatDoor
namespace Go.Proofs.YtcdnhopeojkmkaaGreatDoor
open Go.RowKit
set_option maxHeartbeats 1000000 in
theorem counted_sum (a b : Int) (ha : In64 a) (hb : In64 b) (w : World) :
    Calls Tryz.prog 71 #[.string ⟨#[43]⟩, .int .i64 a, .int .i64 b] w fun e w' => e = .returned (.tuple #[.int .i64 (exact64 (a + b)).1, .int .i64 (exact64 (a + b)).2]) ∧ Below w.heap.size w w' := by
  obtain ⟨ha1, ha2⟩ := ha
  obtain ⟨hb1, hb2⟩ := hb
  by_cases hi : In64 (a + b)
  · rw [exact_in hi]
    obtain ⟨h1, h2⟩ := hi
    have t : Hid ((decide (a ≤ a + b) == decide (0 ≤ b)) = true) := by
      have h : a ≤ a + b ↔ 0 ≤ b := by omega
      rw [Hid, beq_iff_eq]
      exact decide_eq_decide.2 h
    go_enter Tryz.func71, Tryz.ntmps71
    go_wp2
    all_goals go_ret2
    all_goals first | (rename_i h; rw [t.out] at h; exact absurd h (by decide)) | exact ⟨ret_two rfl rfl, Below.refl _ _⟩
  · rw [exact_out hi]
    have hi' : a + b < -9223372036854775808 ∨ 9223372036854775807 < a + b := by unfold In64 at hi; omega
    clear hi
    have t : Hid ((decide (a ≤ wrap64 (a + b)) == decide (0 ≤ b)) = false) := by
      have h : ¬ (a ≤ wrap64 (a + b) ↔ 0 ≤ b) := by unfold wrap64; omega
      rw [Hid, beq_eq_false_iff_ne]
      exact fun h' => h (decide_eq_decide.1 h')
    go_enter Tryz.func71, Tryz.ntmps71
    go_wp2
    all_goals go_ret2
    all_goals first | (rename_i h; rw [t.out] at h; exact absurd h (by decide)) | exact ⟨ret_two rfl rfl, Below.refl _ _⟩
set_option maxHeartbeats 1000000 in
theorem counted_diff (a b : Int) (ha : In64 a) (hb : In64 b) (w : World) :
    Calls Tryz.prog 71 #[.string ⟨#[45]⟩, .int .i64 a, .int .i64 b] w fun e w' => e = .returned (.tuple #[.int .i64 (exact64 (a - b)).1, .int .i64 (exact64 (a - b)).2]) ∧ Below w.heap.size w w' := by
  obtain ⟨ha1, ha2⟩ := ha
  obtain ⟨hb1, hb2⟩ := hb
  by_cases hi : In64 (a - b)
  · rw [exact_in hi]
    obtain ⟨h1, h2⟩ := hi
    have t : Hid ((decide (a - b ≤ a) == decide (0 ≤ b)) = true) := by
      have h : a - b ≤ a ↔ 0 ≤ b := by omega
      rw [Hid, beq_iff_eq]
      exact decide_eq_decide.2 h
    go_enter Tryz.func71, Tryz.ntmps71
    go_wp2
    all_goals go_ret2
    all_goals first | (rename_i h; rw [t.out] at h; exact absurd h (by decide)) | exact ⟨ret_two rfl rfl, Below.refl _ _⟩
  · rw [exact_out hi]
    have hi' : a - b < -9223372036854775808 ∨ 9223372036854775807 < a - b := by unfold In64 at hi; omega
    clear hi
    have t : Hid ((decide (wrap64 (a - b) ≤ a) == decide (0 ≤ b)) = false) := by
      have h : ¬ (wrap64 (a - b) ≤ a ↔ 0 ≤ b) := by unfold wrap64; omega
      rw [Hid, beq_eq_false_iff_ne]
      exact fun h' => h (decide_eq_decide.1 h')
    go_enter Tryz.func71, Tryz.ntmps71
    go_wp2
    all_goals go_ret2
    all_goals first | (rename_i h; rw [t.out] at h; exact absurd h (by decide)) | exact ⟨ret_two rfl rfl, Below.refl _ _⟩
set_option maxHeartbeats 1000000 in
theorem counted_prod (a b : Int) (ha : In64 a) (hb : In64 b) (w : World) :
    Calls Tryz.prog 71 #[.string ⟨#[42]⟩, .int .i64 a, .int .i64 b] w fun e w' => e = .returned (.tuple #[.int .i64 (exact64 (a * b)).1, .int .i64 (exact64 (a * b)).2]) ∧ Below w.heap.size w w' := by
  have HA := Hid.mk2 ha
  have HB := Hid.mk2 hb
  obtain ⟨ha1, ha2⟩ := ha
  obtain ⟨hb1, hb2⟩ := hb
  by_cases hi : In64 (a * b)
  · rw [exact_in hi]
    have HE : Hid (decide (In64 (a * b)) = true) := by simpa [Hid] using hi
    have HI := Hid.mk2 hi
    clear hi
    go_enter Tryz.func71, Tryz.ntmps71
    go_wp2_with (go_at_call 106; refine (crossed_any a b HA.out HB.out _).mono ?_; rintro e w1 ⟨⟨c, rfl, hc⟩, hb1⟩; rw [HE.out]; have HC := Hid.mk2 (hc HI.out); have HW := Hid.mk2 hb1; clear hc hb1)
    all_goals go_ret2
    all_goals exact ⟨ret_two HC.out rfl, HW.out⟩
  · rw [exact_out hi]
    have HE : Hid (decide (In64 (a * b)) = false) := by simpa [Hid] using hi
    clear hi
    go_enter Tryz.func71, Tryz.ntmps71
    go_wp2_with (go_at_call 106; refine (crossed_any a b HA.out HB.out _).mono ?_; rintro e w1 ⟨⟨c, rfl, hc⟩, hb1⟩; rw [HE.out]; have HW := Hid.mk2 hb1; clear hc hb1)
    all_goals go_ret2
    all_goals exact ⟨ret_two rfl rfl, HW.out⟩
set_option maxHeartbeats 1000000 in
theorem counted_quo (a b : Int) (ha : In64 a) (hb : In64 b) (w : World) :
    Calls Tryz.prog 71 #[.string ⟨#[47]⟩, .int .i64 a, .int .i64 b] w fun e w' => e = .returned (.tuple #[.int .i64 (joinN 7 a b).1, .int .i64 (joinN 7 a b).2]) ∧ Below w.heap.size w w' := by
  rw [join7 a b ha hb]
  by_cases h0 : b = 0
  · subst h0
    have e : divFault a 0 = 2 := by simp [divFault]
    rw [if_neg (by omega), e]
    go_enter Tryz.func71, Tryz.ntmps71
    go_wp2
    all_goals go_ret2
    all_goals exact ⟨ret_two rfl rfl, Below.refl _ _⟩
  have eb : (b == 0) = false := by simpa using h0
  by_cases h1 : a = -9223372036854775808 ∧ b = -1
  · obtain ⟨rfl, rfl⟩ := h1
    have e : divFault (-9223372036854775808) (-1) = 1 := by decide
    rw [if_neg (by omega), e]
    go_enter Tryz.func71, Tryz.ntmps71
    go_wp2
    all_goals go_ret2
    all_goals exact ⟨ret_two rfl rfl, Below.refl _ _⟩
  have e : divFault a b = 0 := by simp [divFault, h0, h1]
  rw [if_pos e]
  have HI : Hid (In64 (a.tdiv b)) := tdiv_in a b ha hb h0 h1
  have t2 : ((a == -9223372036854775808) && (b == -1)) = false := by
    rw [beq_dec, beq_dec]; simp; exact fun h h' => h1 ⟨h, h'⟩
  obtain ⟨ha1, ha2⟩ := ha
  obtain ⟨hb1, hb2⟩ := hb
  clear h1 e
  cases eA : (a == -9223372036854775808)
  · clear t2
    go_enter Tryz.func71, Tryz.ntmps71
    go_wp2
    all_goals go_ret2
    all_goals exact ⟨ret_two (wrap64_eq HI.out) rfl, Below.refl _ _⟩
  · have n1 : (b == -1) = false := by rw [eA] at t2; simpa using t2
    clear t2
    go_enter Tryz.func71, Tryz.ntmps71
    go_wp2
    all_goals go_ret2
    all_goals exact ⟨ret_two (wrap64_eq HI.out) rfl, Below.refl _ _⟩
set_option maxHeartbeats 1000000 in
theorem counted_rem (a b : Int) (ha : In64 a) (hb : In64 b) (w : World) :
    Calls Tryz.prog 71 #[.string ⟨#[37]⟩, .int .i64 a, .int .i64 b] w fun e w' => e = .returned (.tuple #[.int .i64 (joinN 8 a b).1, .int .i64 (joinN 8 a b).2]) ∧ Below w.heap.size w w' := by
  rw [join8 a b]
  by_cases h0 : b = 0
  · subst h0
    have e : divFault a 0 = 2 := by simp [divFault]
    rw [if_neg (by omega), e]
    go_enter Tryz.func71, Tryz.ntmps71
    go_wp2
    all_goals go_ret2
    all_goals exact ⟨ret_two rfl rfl, Below.refl _ _⟩
  have eb : (b == 0) = false := by simpa using h0
  by_cases h1 : a = -9223372036854775808 ∧ b = -1
  · obtain ⟨rfl, rfl⟩ := h1
    have e : divFault (-9223372036854775808) (-1) = 1 := by decide
    rw [if_neg (by omega), e]
    go_enter Tryz.func71, Tryz.ntmps71
    go_wp2
    all_goals go_ret2
    all_goals exact ⟨ret_two rfl rfl, Below.refl _ _⟩
  have e : divFault a b = 0 := by simp [divFault, h0, h1]
  rw [if_pos e]
  have HI : Hid (In64 (a.tmod b)) := (tmod_in a b ha).1
  have t2 : ((a == -9223372036854775808) && (b == -1)) = false := by
    rw [beq_dec, beq_dec]; simp; exact fun h h' => h1 ⟨h, h'⟩
  obtain ⟨ha1, ha2⟩ := ha
  obtain ⟨hb1, hb2⟩ := hb
  clear h1 e
  cases eA : (a == -9223372036854775808)
  · clear t2
    go_enter Tryz.func71, Tryz.ntmps71
    go_wp2
    all_goals go_ret2
    all_goals first | exact ⟨ret_two rfl rfl, Below.refl _ _⟩ | exact ⟨ret_two (wrap64_eq HI.out) rfl, Below.refl _ _⟩
  · have n1 : (b == -1) = false := by rw [eA] at t2; simpa using t2
    clear t2
    go_enter Tryz.func71, Tryz.ntmps71
    go_wp2
    all_goals go_ret2
    all_goals first | exact ⟨ret_two rfl rfl, Below.refl _ _⟩ | exact ⟨ret_two (wrap64_eq HI.out) rfl, Below.refl _ _⟩
def signC (n : Nat) : Nat := if n = 4 then 43 else if n = 5 then 45 else if n = 6 then 42 else if n = 7 then 47 else 37
theorem counted_any (n : Nat) (hn : 4 ≤ n ∧ n ≤ 8) (a b : Int) (ha : In64 a) (hb : In64 b) (w : World) :
    Calls Tryz.prog 71 #[.string ⟨#[UInt8.ofNat (signC n)]⟩, .int .i64 a, .int .i64 b] w fun e w' => e = .returned (.tuple #[.int .i64 (joinN n a b).1, .int .i64 (joinN n a b).2]) ∧ Below w.heap.size w w' := by
  obtain rfl | rfl | rfl | rfl | rfl : n = 4 ∨ n = 5 ∨ n = 6 ∨ n = 7 ∨ n = 8 := by omega
  · exact counted_sum a b ha hb w
  · exact counted_diff a b ha hb w
  · exact counted_prod a b ha hb w
  · exact counted_quo a b ha hb w
  · exact counted_rem a b ha hb w
end Go.Proofs.YtcdnhopeojkmkaaGreatDoor
