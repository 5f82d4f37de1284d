/-
  Texts with a byte put in that begins no token; texts without their last sign.
-/
import Derived.Test.YtjjbmbjmdgoofaaGreatDoorB00
import Derived.Test.YtjjbmbjmdgoofaaGreatDoorB27
set_option linter.unusedVariables false
set_option linter.unusedSimpArgs false
namespace Go.Proofs.YtjjbmbjmdgoofaaGreatDoor
open Go.Deep
theorem same_q (a : UInt8) : sameC a 63 = false := by
  unfold sameC
  have e1 : isDig 63 = false := by decide
  have e2 : isLet 63 = false := by decide
  have e3 : ((63 : UInt8) == 61) = false := by decide
  rw [e1, e2, e3]
  simp
theorem same_semi (a : UInt8) : sameC a 59 = false := by
  unfold sameC
  have e1 : isDig 59 = false := by decide
  have e2 : isLet 59 = false := by decide
  have e3 : ((59 : UInt8) == 61) = false := by decide
  rw [e1, e2, e3]
  simp
theorem run_cut (q : UInt8) (hq : ∀ a, sameC a q = false) (r : Txt) : ∀ (s : Txt) (k : Nat), 1 ≤ k → k ≤ s.length → runLen (s.take k ++ q :: r) = min k (runLen s)
  | [], k, h1, h2 => by simp at h2; omega
  | [a], k, h1, h2 => by
    have : k = 1 := by simp at h2; omega
    subst this
    have e : runLen (a :: q :: r) = 1 := by rw [runLen, if_neg (by rw [hq]; simp)]
    show runLen (a :: q :: r) = min 1 1
    rw [e]
    rfl
  | a :: b :: t, k, h1, h2 => by
    by_cases hk : k = 1
    · subst hk
      have e : runLen (a :: q :: r) = 1 := by rw [runLen, if_neg (by rw [hq]; simp)]
      show runLen (a :: q :: r) = _
      rw [e]
      have := runLen_pos a (b :: t)
      omega
    · obtain ⟨j, rfl⟩ : ∃ j, k = j + 1 + 1 := ⟨k - 2, by omega⟩
      have ih := run_cut q hq r (b :: t) (j + 1) (by omega) (by simp at h2 ⊢; omega)
      show runLen (a :: b :: (t.take j ++ q :: r)) = _
      have e : (b :: t).take (j + 1) ++ q :: r = b :: (t.take j ++ q :: r) := rfl
      rw [e] at ih
      rw [runLen, runLen]
      by_cases hs : sameC a b = true
      · rw [if_pos hs, if_pos hs, ih]; omega
      · rw [if_neg hs, if_neg hs]; omega
theorem toksR_con (c : UInt8) (r : Txt) (pos : Nat) : toksR (c :: r) pos = if blankC c then toksR r (pos + 1) else if mayT ((c :: r).take (runLen (c :: r))) then (match toksR ((c :: r).drop (runLen (c :: r))) (pos + runLen (c :: r)) with | .ok l => .ok (⟨(c :: r).take (runLen (c :: r)), pos⟩ :: l) | .error e => .error e) else .error pos := by
  have hp := runLen_pos c r
  have e : toksRF r.length ((c :: r).drop (runLen (c :: r))) (pos + runLen (c :: r)) = toksR ((c :: r).drop (runLen (c :: r))) (pos + runLen (c :: r)) := toksRF_more _ _ _ _ (by rw [List.length_drop, List.length_cons]; omega) (Nat.le_refl _)
  show toksRF (r.length + 1) (c :: r) pos = _
  rw [toksRF, e]
  rfl
theorem take_take_app (s r : Txt) (q : UInt8) (k n : Nat) (h : n ≤ k) (hk : k ≤ s.length) : (s.take k ++ q :: r).take n = s.take n ∧ (s.take k ++ q :: r).drop n = (s.drop n).take (k - n) ++ q :: r := by
  have hl : (s.take k).length = k := by rw [List.length_take]; omega
  constructor
  · rw [List.take_append_of_le_length (by omega), List.take_take, Nat.min_eq_left h]
  · rw [List.drop_append_of_le_length (by omega), List.drop_take]
theorem may_pre {c : UInt8} {r : Txt} {k : Nat} (hm : mayT ((c :: r).take (runLen (c :: r))) = true) (h1 : 1 ≤ k) (hk : k < runLen (c :: r)) (hq : (c :: r)[k - 1]? ≠ some 33) : mayT ((c :: r).take k) = true := by
  obtain ⟨j, rfl⟩ : ∃ j, k = j + 1 := ⟨k - 1, by omega⟩
  have hl := runLen_le (c :: r)
  have hn : 1 ≤ runLen (c :: r) := by omega
  have hh : ∀ m, 1 ≤ m → headC ((c :: r).take m) = c := fun m hm => by
    obtain ⟨i, rfl⟩ : ∃ i, m = i + 1 := ⟨m - 1, by omega⟩
    rfl
  unfold mayT at hm ⊢
  rw [hh _ hn] at hm
  rw [hh _ (by omega)]
  by_cases hd : isDig c = true
  · rw [if_pos hd] at hm ⊢
    simp only [decide_eq_true_eq, List.length_take] at hm ⊢
    omega
  · rw [if_neg hd] at hm ⊢
    by_cases ht : isLet c = true
    · rw [if_pos ht] at hm ⊢
      simp only [decide_eq_true_eq, List.length_take] at hm ⊢
      omega
    · rw [if_neg ht] at hm ⊢
      cases r with
      | nil => simp [runLen] at hk
      | cons b t =>
        have hs : sameC c b = true := by
          by_cases h : sameC c b = true
          · exact h
          · rw [runLen, if_neg h] at hk; omega
        have hd' : isDig c = false := by simpa using hd
        have ht' : isLet c = false := by simpa using ht
        have hc : (c = 60 ∨ c = 33) ∧ b = 61 := by
          unfold sameC at hs
          rw [hd', ht'] at hs
          simpa using hs
        obtain ⟨hc, rfl⟩ := hc
        have h2 : runLen (c :: 61 :: t) ≤ 2 := by
          rw [runLen, if_pos hs]
          cases t with
          | nil => simp [runLen]
          | cons d u =>
            have : sameC 61 d = false := by
              unfold sameC
              have e1 : isDig 61 = false := by decide
              have e2 : isLet 61 = false := by decide
              rw [e1, e2]
              simp
            rw [runLen, this]
            simp
        have hj : j = 0 := by omega
        subst hj
        have : c ≠ 33 := fun e => hq (by rw [e]; rfl)
        rcases hc with rfl | rfl
        · show signT [60] = true
          decide
        · exact absurd rfl this
theorem toks_broken (r : Txt) : ∀ (n : Nat) (s : Txt) (p : Nat) (l : List RTok) (k : Nat), s.length ≤ n → toksR s p = .ok l → k ≤ s.length → (0 < k → s[k - 1]? ≠ some 33) → toksR (s.take k ++ 63 :: r) p = .error (p + k) := by
  have h0 : ∀ p, toksR (63 :: r) p = .error p := fun p => by
    rw [toksR_con, if_neg (by decide)]
    have e : runLen (63 :: r) = 1 := by
      cases r with
      | nil => rfl
      | cons b t =>
        have e1 : isDig 63 = false := by decide
        have e2 : isLet 63 = false := by decide
        rw [runLen, if_neg (by unfold sameC; rw [e1, e2]; simp)]
    rw [e, if_neg (by show ¬ (mayT [63] = true); decide)]
  intro n
  induction n with
  | zero =>
    intro s p l k hn hs hk hq
    obtain rfl : s = [] := List.length_eq_zero_iff.1 (by omega)
    obtain rfl : k = 0 := by simpa using hk
    simpa using h0 p
  | succ n ih =>
    intro s p l k hn hs hk hq
    by_cases hk0 : k = 0
    · subst hk0
      simpa using h0 p
    cases s with
    | nil => simp at hk; omega
    | cons c t =>
      rw [toksR_con] at hs
      by_cases hb : blankC c = true
      · rw [if_pos hb] at hs
        obtain ⟨j, rfl⟩ : ∃ j, k = j + 1 := ⟨k - 1, by omega⟩
        have := ih t (p + 1) l j (by simp at hn; omega) hs (by simp at hk; omega) (fun hj => by
          have h := hq (by omega)
          obtain ⟨i, rfl⟩ : ∃ i, j = i + 1 := ⟨j - 1, by omega⟩
          simpa using h)
        show toksR (c :: (t.take j ++ 63 :: r)) p = _
        rw [toksR_con, if_pos hb, this]
        congr 1
        omega
      · rw [if_neg hb] at hs
        by_cases hm : mayT ((c :: t).take (runLen (c :: t))) = true
        · rw [if_pos hm] at hs
          have hl := runLen_le (c :: t)
          have hp := runLen_pos c t
          have hrun := run_cut 63 same_q r (c :: t) k (by omega) hk
          obtain ⟨j, hj⟩ : ∃ j, k = j + 1 := ⟨k - 1, by omega⟩
          have hcons : (c :: t).take k ++ 63 :: r = c :: (t.take j ++ 63 :: r) := by rw [hj]; rfl
          have hrun' : runLen (c :: (t.take j ++ 63 :: r)) = min k (runLen (c :: t)) := by rw [← hcons]; exact hrun
          rw [hcons, toksR_con, if_neg hb, hrun']
          by_cases hkn : k < runLen (c :: t)
          · rw [Nat.min_eq_left (by omega), ← hcons]
            obtain ⟨e1, e2⟩ := take_take_app (c :: t) r 63 k k (Nat.le_refl _) hk
            rw [e1, e2, if_pos (may_pre hm (by omega) hkn (hq (by omega)))]
            rw [show ((c :: t).drop k).take (k - k) ++ 63 :: r = 63 :: r by simp, h0]
          · rw [Nat.min_eq_right (by omega), ← hcons]
            obtain ⟨e1, e2⟩ := take_take_app (c :: t) r 63 k (runLen (c :: t)) (by omega) hk
            rw [e1, e2, if_pos hm]
            cases hx : toksR ((c :: t).drop (runLen (c :: t))) (p + runLen (c :: t)) with
            | error e => rw [hx] at hs; cases hs
            | ok l' =>
              have := ih ((c :: t).drop (runLen (c :: t))) (p + runLen (c :: t)) l' (k - runLen (c :: t)) (by rw [List.length_drop]; simp at hn hl ⊢; omega) hx (by rw [List.length_drop]; omega) (fun hj => by
                rw [List.getElem?_drop]
                have h := hq (by omega)
                rw [show runLen (c :: t) + (k - runLen (c :: t) - 1) = k - 1 by omega]
                exact h)
              rw [this]
              simp only
              congr 1
              omega
        · rw [if_neg hm] at hs; cases hs
theorem toks_semi : ∀ (n : Nat) (u : Txt) (p : Nat) (l : List RTok), u.length ≤ n → toksR (u ++ [59]) p = .ok l → ∃ l', toksR u p = .ok l' ∧ l = l' ++ [⟨[59], p + u.length⟩] := by
  intro n
  induction n with
  | zero =>
    intro u p l hn h
    obtain rfl : u = [] := List.length_eq_zero_iff.1 (by omega)
    have e : toksR [59] p = .ok [⟨[59], p⟩] := by
      rw [toksR_con, if_neg (by decide)]
      rfl
    rw [List.nil_append, e] at h
    cases h
    exact ⟨[], rfl, rfl⟩
  | succ n ih =>
    intro u p l hn h
    cases u with
    | nil => exact ih [] p l (by simp) h
    | cons c t =>
      rw [List.cons_append, toksR_con] at h
      rw [toksR_con]
      by_cases hb : blankC c = true
      · rw [if_pos hb] at h ⊢
        obtain ⟨l', h1, h2⟩ := ih t (p + 1) l (by simp at hn; omega) h
        exact ⟨l', h1, by rw [h2]; simp; omega⟩
      · rw [if_neg hb] at h ⊢
        have hp := runLen_pos c t
        have hl := runLen_le (c :: t)
        have hrun : runLen (c :: (t ++ [59])) = runLen (c :: t) := by
          have := run_cut 59 same_semi [] (c :: t) (c :: t).length (by simp) (Nat.le_refl _)
          rw [List.take_length] at this
          rw [show c :: (t ++ [59]) = (c :: t) ++ [59] from rfl, this]
          omega
        have e0 : c :: (t ++ [59]) = (c :: t) ++ [59] := rfl
        rw [hrun, e0, List.take_append_of_le_length hl, List.drop_append_of_le_length hl] at h
        by_cases hm : mayT ((c :: t).take (runLen (c :: t))) = true
        · rw [if_pos hm] at h ⊢
          cases hx : toksR ((c :: t).drop (runLen (c :: t)) ++ [59]) (p + runLen (c :: t)) with
          | error e => rw [hx] at h; cases h
          | ok m =>
            rw [hx] at h
            obtain ⟨l', h1, h2⟩ := ih _ _ m (by rw [List.length_drop]; simp at hn hl ⊢; omega) hx
            rw [h1]
            simp only at h ⊢
            cases h
            refine ⟨_, rfl, ?_⟩
            rw [h2]
            simp only [List.cons_append, List.length_drop, List.length_cons] at hl ⊢
            congr 3
            congr 1
            omega
        · rw [if_neg hm] at h; cases h
theorem step_semi {p : Spot} (h : (stepS p [59]).2 = true) : p.next ≠ 6 := fun h6 => by
  unfold stepS at h
  rw [h6] at h
  simp only [show ¬ ((6 : Nat) = 0) by omega, show ¬ ((6 : Nat) = 1) by omega, show ¬ ((6 : Nat) = 2) by omega, show ¬ ((6 : Nat) = 3) by omega, show ¬ ((6 : Nat) = 4) by omega, show ¬ ((6 : Nat) = 5) by omega, if_false] at h
  unfold ruleS at h
  revert h
  simp [cWhen, cScore, cReject]
theorem go_last : ∀ (l : List RTok) (p q : Spot) (t : RTok), goS p (l ++ [t]) = .ok q → ∃ m, goS p l = .ok m ∧ (stepS m t.text).2 = true
  | [], p, q, t, h => by
    rw [List.nil_append, goS] at h
    by_cases hs : (stepS p t.text).2 = true
    · exact ⟨p, rfl, hs⟩
    · rw [if_neg hs] at h; cases h
  | a :: l, p, q, t, h => by
    rw [List.cons_append, goS] at h
    by_cases hs : (stepS p a.text).2 = true
    · rw [if_pos hs] at h
      obtain ⟨m, h1, h2⟩ := go_last l _ q t h
      exact ⟨m, by rw [goS, if_pos hs]; exact h1, h2⟩
    · rw [if_neg hs] at h; cases h
theorem tokened_fine3 {s : Txt} {l : List RTok} (h : tokened s = .fine l) : s.length ≤ 400 ∧ toksR s 0 = .ok l ∧ ∃ q, goS ⟨0, 0, 0⟩ l = .ok q := by
  unfold tokened at h
  by_cases hl : s.length > 400
  · rw [if_pos hl] at h; cases h
  rw [if_neg hl] at h
  cases hx : toksR s 0 with
  | error e => rw [hx] at h; cases h
  | ok m =>
    rw [hx] at h
    simp only at h
    cases hg : goS ⟨0, 0, 0⟩ m with
    | error e => rw [hg] at h; cases h
    | ok q =>
      rw [hg] at h
      simp only at h
      split at h
      · cases h
        exact ⟨by omega, rfl, q, hg⟩
      · cases h
theorem tokened_broken {s : Txt} {l : List RTok} (h : tokened s = .fine l) (hl : s.length ≤ 399) (k : Nat) (hk : k ≤ s.length) (hq : 0 < k → s[k - 1]? ≠ some 33) : tokened (s.take k ++ 63 :: s.drop k) = .bad 2 k := by
  obtain ⟨_, h2, _⟩ := tokened_fine3 h
  have := toks_broken (s.drop k) s.length s 0 l k (Nat.le_refl _) h2 hk hq
  unfold tokened
  rw [if_neg (by rw [List.length_append, List.length_take, List.length_cons, List.length_drop]; omega), this]
  simp
theorem tokened_early {u : Txt} {l : List RTok} (h : tokened (u ++ [59]) = .fine l) : tokened u = .bad 3 u.length := by
  obtain ⟨h1, h2, q, h3⟩ := tokened_fine3 h
  obtain ⟨l', h4, rfl⟩ := toks_semi u.length u 0 l (Nat.le_refl _) h2
  obtain ⟨m, h5, h6⟩ := go_last l' _ q _ h3
  have := step_semi h6
  unfold tokened
  rw [if_neg (by rw [List.length_append] at h1; omega), h4]
  simp only
  rw [h5]
  simp only
  rw [if_neg this]
theorem same_bang (a : UInt8) : sameC a 33 = false := by
  unfold sameC
  have e1 : isDig 33 = false := by decide
  have e2 : isLet 33 = false := by decide
  have e3 : ((33 : UInt8) == 61) = false := by decide
  rw [e1, e2, e3]
  simp
theorem take_drop_at {s : Txt} {j : Nat} {c : UInt8} (h : s[j]? = some c) : s = s.take j ++ c :: s.drop (j + 1) := by
  obtain ⟨hj, e⟩ := List.getElem?_eq_some_iff.1 h
  rw [← e, ← List.drop_eq_getElem_cons hj, List.take_append_drop]
theorem toks_bang : ∀ (n : Nat) (s : Txt) (p : Nat) (l : List RTok), s.length ≤ n → toksR s p = .ok l → ∀ (j : Nat), s[j]? = some (33 : UInt8) → s[j + 1]? = some (61 : UInt8) := by
  intro n
  induction n with
  | zero =>
    intro s p l hn hs j hj
    obtain rfl : s = [] := List.length_eq_zero_iff.1 (by omega)
    simp at hj
  | succ n ih =>
    intro s p l hn hs j hj
    cases s with
    | nil => simp at hj
    | cons c t =>
      rw [toksR_con] at hs
      by_cases hb : blankC c = true
      · rw [if_pos hb] at hs
        cases j with
        | zero =>
          have hc : c = 33 := by simpa using hj
          subst hc
          exact absurd hb (by decide)
        | succ i =>
          have := ih t (p + 1) l (by simp at hn; omega) hs i (by simpa using hj)
          simpa using this
      · rw [if_neg hb] at hs
        by_cases hm : mayT ((c :: t).take (runLen (c :: t))) = true
        · rw [if_pos hm] at hs
          have hl := runLen_le (c :: t)
          have hp := runLen_pos c t
          by_cases hjn : j < runLen (c :: t)
          · cases j with
            | zero =>
              have hc : c = 33 := by simpa using hj
              subst hc
              cases t with
              | nil => exact absurd hm (by decide)
              | cons b u =>
                by_cases hsm : sameC 33 b = true
                · have e1 : isDig 33 = false := by decide
                  have e2 : isLet 33 = false := by decide
                  unfold sameC at hsm
                  rw [e1, e2] at hsm
                  have hb61 : b = 61 := by simpa using hsm
                  rw [hb61]
                  rfl
                · rw [runLen, if_neg hsm] at hm
                  exact absurd hm (by show ¬ (mayT [33] = true); decide)
            | succ i =>
              have hlt : i + 1 < (c :: t).length := (List.getElem?_eq_some_iff.1 hj).1
              have hr := run_cut 33 same_bang ((c :: t).drop (i + 1 + 1)) (c :: t) (i + 1) (by omega) (by omega)
              rw [← take_drop_at hj] at hr
              omega
          · cases hx : toksR ((c :: t).drop (runLen (c :: t))) (p + runLen (c :: t)) with
            | error e => rw [hx] at hs; cases hs
            | ok l' =>
              have := ih ((c :: t).drop (runLen (c :: t))) (p + runLen (c :: t)) l' (by rw [List.length_drop]; simp at hn hl ⊢; omega) hx (j - runLen (c :: t)) (by
                rw [List.getElem?_drop, show runLen (c :: t) + (j - runLen (c :: t)) = j by omega]
                exact hj)
              rw [List.getElem?_drop] at this
              rw [show j + 1 = runLen (c :: t) + (j - runLen (c :: t) + 1) by omega]
              exact this
        · rw [if_neg hm] at hs; cases hs
theorem tokened_bang {s : Txt} {l : List RTok} (h : tokened s = .fine l) {j : Nat} (hj : s[j]? = some (33 : UInt8)) : 0 < j → s[j - 1]? ≠ some (33 : UInt8) := fun h0 he => by
  obtain ⟨_, h2, _⟩ := tokened_fine3 h
  have := toks_bang s.length s 0 l (Nat.le_refl _) h2 (j - 1) he
  rw [show j - 1 + 1 = j by omega, hj] at this
  cases this
end Go.Proofs.YtjjbmbjmdgoofaaGreatDoor
namespace Go.Proofs.YtjjbmbjmdgoofaaGreatDoor
open Go.RowKit Go.Deep
def Pinned (s : Txt) (c : Int) (p : Nat) : Prop := ∀ c' p', SoundAs s c' p' → c' = c ∧ p' = p
theorem pinned_bad {s : Txt} {c : Int} {p : Nat} (h : tokened s = .bad c p) : Pinned s c p := fun c' p' hs => by
  rcases hs with ⟨h1, _⟩ | ⟨L, R, n, hp, _⟩
  · rw [h] at h1; cases h1; exact ⟨rfl, rfl⟩
  · have := hp.fine; rw [h] at this; cases this
set_option maxHeartbeats 1000000 in
theorem Print_bad (s : ByteArray) (w : World) (hg : GlobT w) (hz : s.size ≤ maxLen) {c : Int} {p : Nat} (h : tokened s.toList = .bad c p) :
    Calls Tryz.prog 10 #[.string s] w fun e w' => Below w.heap.size w w' ∧ e = .returned (.tuple #[.string { data := #[] }, .int .i64 c, .int .i64 (p : Nat)]) := by
  have HG := hideP hg
  have HSZ := hideP hz
  have HTK := hideP h
  clear hg hz h
  go_enter Tryz.func10, Tryz.ntmps10
  go_wp2_with (go_at_call 32; refine (Read_bad s _ HG.out HSZ.out HTK.out).mono ?_; rintro e w1 ⟨hb1, hc, rfl⟩; have HB1 := hideP hb1; clear hb1)
  go_ret3
  exact ⟨HB1.out.trans ((new_below w1 _).mono HB1.out.size), rfl⟩
theorem Check_pin (s : ByteArray) (w : World) (hg : GlobT w) (hz : s.size ≤ maxLen) {c : Int} {p : Nat} (h : Pinned s.toList c p) :
    Calls Tryz.prog 11 #[.string s] w fun e w' => Below w.heap.size w w' ∧ e = .returned (.tuple #[.int .i64 c, .int .i64 (p : Nat)]) := by
  refine (Check_prog s w hg hz).mono ?_
  rintro e w' ⟨hb, c', p', hs, rfl⟩
  obtain ⟨rfl, rfl⟩ := h _ _ hs
  exact ⟨hb, rfl⟩
set_option maxHeartbeats 1000000 in
theorem Compile_pin (s : ByteArray) (w : World) (hg : GlobT w) (hz : s.size ≤ maxLen) {c : Int} {p : Nat} (h : Pinned s.toList c p) (hc : c ≠ 0) :
    Calls Tryz.prog 12 #[.string s] w fun e w' => Below w.heap.size w w' ∧ e = .returned (.tuple #[.string { data := #[] }, .int .i64 c, .int .i64 (p : Nat)]) := by
  have HG := hideP hg
  have HSZ := hideP hz
  have HTK := hideP h
  clear hg hz h
  go_enter Tryz.func12, Tryz.ntmps12
  go_wp2_with (go_at_call 34; refine (readSound_any s _ HG.out HSZ.out).mono ?_; rintro e w1 ⟨hb1, c', p', hs, a1, l1, c1, a2, l2, c2, a3, l3, c3, rfl⟩; obtain ⟨rfl, rfl⟩ := HTK.out _ _ hs; have HB1 := hideP hb1; clear hb1 hs)
  go_ret3
  exact ⟨HB1.out.trans ((new_below w1 _).mono HB1.out.size), rfl⟩
set_option maxHeartbeats 1000000 in
theorem Load_pin (s : ByteArray) (q : Addr) (w : World) (hg : GlobT w) (hz : s.size ≤ maxLen) {c : Int} {p : Nat} (h : Pinned s.toList c p) (hc : c ≠ 0) :
    Calls Tryz.prog 14 #[.pointer (some q), .string s] w fun e w' => Below w.heap.size w w' ∧ e = .returned (.tuple #[.int .i64 c, .int .i64 (p : Nat)]) := by
  have HG := hideP hg
  have HSZ := hideP hz
  have HTK := hideP h
  have HC := hideP hc
  clear hg hz h
  go_enter Tryz.func14, Tryz.ntmps14
  go_wp2_with (go_at_call 12; refine (Compile_pin s _ HG.out HSZ.out HTK.out HC.out).mono ?_; rintro e w1 ⟨hb1, rfl⟩; have HB1 := hideP hb1; clear hb1)
  go_ret2
  exact ⟨HB1.out, rfl⟩
end Go.Proofs.YtjjbmbjmdgoofaaGreatDoor
