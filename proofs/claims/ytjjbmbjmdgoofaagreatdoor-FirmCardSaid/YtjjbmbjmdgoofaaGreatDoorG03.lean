/-
  The program's first and Scan: the tokens of a text, with one of the kind End behind them; or the place at which none begins.
-/
import Derived.Test.YtjjbmbjmdgoofaaGreatDoorG02
set_option linter.unusedVariables false
set_option linter.unusedSimpArgs false
namespace Go.Proofs.YtjjbmbjmdgoofaaGreatDoor
open Go.RowKit
set_option maxHeartbeats 1000000 in
theorem first_any (s : ByteArray) (hs : s.size ≤ 400) (w : World) (hg : GlobT w) :
    Calls Tryz.prog 84 #[.string s] w fun e w' => e = .returned (.tuple #[.int .i64 (firstT s.toList).1, .int .i64 (firstT s.toList).2]) ∧ Below w.heap.size w w' := by
  have HG : Hid (GlobT w) := hg
  clear hg
  have hdl : digitRowT s.toList ≤ s.size := by rw [← toList_length]; exact takeWhile_length_le _ _
  have hll : letterRowT s.toList ≤ s.size := by rw [← toList_length]; exact takeWhile_length_le _ _
  have hft : firstT s.toList = if 18 < digitRowT s.toList then (0, 0) else if 0 < digitRowT s.toList then (1, digitRowT s.toList) else if 8 < letterRowT s.toList then (0, 0) else if 0 < letterRowT s.toList then (wordKindT (s.toList.take (letterRowT s.toList)), letterRowT s.toList) else firstSignT s.toList := rfl
  obtain ⟨n, hn⟩ : ∃ n, n = digitRowT s.toList := ⟨_, rfl⟩
  obtain ⟨m, hm⟩ : ∃ m, m = letterRowT s.toList := ⟨_, rfl⟩
  rw [← hn] at hdl hft
  rw [← hm] at hll hft
  have HN : Hid (digitRowT s.toList = n) := hn.symm
  have HM : Hid (letterRowT s.toList = m) := hm.symm
  have HX : Hid ((s.extract 0 m).toList = s.toList.take m) := (by rw [extract_bsOf, bsOf_toList]; simp : (s.extract 0 m).toList = s.toList.take m)
  clear hn hm
  by_cases h1 : 18 < n
  · rw [hft, if_pos h1]; clear hft
    go_enter Tryz.func84, Tryz.ntmps84
    go_wp2_with (first | (go_at_call 110; refine (digitRow_any s hs _).mono ?_; rintro e _ ⟨rfl, rfl⟩; rw [HN.out]) | (go_at_call 111; refine (letterRow_any s hs _).mono ?_; rintro e _ ⟨rfl, rfl⟩; rw [HM.out]) | (go_at_call 112; refine (wordKind_any _ _ HG.out).mono ?_; rintro e _ ⟨rfl, rfl⟩) | (go_at_call 113; refine (firstSign_any s hs _ HG.out).mono ?_; rintro e w5 ⟨rfl, hb5⟩))
    go_ret2
    exact ⟨rfl, Below.refl _ _⟩
  · rw [if_neg h1] at hft
    by_cases h2 : 0 < n
    · rw [hft, if_pos h2]; clear hft
      go_enter Tryz.func84, Tryz.ntmps84
      go_wp2_with (first | (go_at_call 110; refine (digitRow_any s hs _).mono ?_; rintro e _ ⟨rfl, rfl⟩; rw [HN.out]) | (go_at_call 111; refine (letterRow_any s hs _).mono ?_; rintro e _ ⟨rfl, rfl⟩; rw [HM.out]) | (go_at_call 112; refine (wordKind_any _ _ HG.out).mono ?_; rintro e _ ⟨rfl, rfl⟩) | (go_at_call 113; refine (firstSign_any s hs _ HG.out).mono ?_; rintro e w5 ⟨rfl, hb5⟩))
      go_ret2
      exact ⟨rfl, Below.refl _ _⟩
    · rw [if_neg h2] at hft
      by_cases h3 : 8 < m
      · rw [hft, if_pos h3]; clear hft
        go_enter Tryz.func84, Tryz.ntmps84
        go_wp2_with (first | (go_at_call 110; refine (digitRow_any s hs _).mono ?_; rintro e _ ⟨rfl, rfl⟩; rw [HN.out]) | (go_at_call 111; refine (letterRow_any s hs _).mono ?_; rintro e _ ⟨rfl, rfl⟩; rw [HM.out]) | (go_at_call 112; refine (wordKind_any _ _ HG.out).mono ?_; rintro e _ ⟨rfl, rfl⟩) | (go_at_call 113; refine (firstSign_any s hs _ HG.out).mono ?_; rintro e w5 ⟨rfl, hb5⟩))
        go_ret2
        exact ⟨rfl, Below.refl _ _⟩
      · rw [if_neg h3] at hft
        by_cases h4 : 0 < m
        · rw [hft, if_pos h4]; clear hft
          go_enter Tryz.func84, Tryz.ntmps84
          go_wp2_with (first | (go_at_call 110; refine (digitRow_any s hs _).mono ?_; rintro e _ ⟨rfl, rfl⟩; rw [HN.out]) | (go_at_call 111; refine (letterRow_any s hs _).mono ?_; rintro e _ ⟨rfl, rfl⟩; rw [HM.out]) | (go_at_call 112; refine (wordKind_any _ _ HG.out).mono ?_; rintro e _ ⟨rfl, rfl⟩) | (go_at_call 113; refine (firstSign_any s hs _ HG.out).mono ?_; rintro e w5 ⟨rfl, hb5⟩))
          go_ret2
          exact ⟨by rw [← HX.out]; rfl, Below.refl _ _⟩
        · rw [hft, if_neg h4]; clear hft
          go_enter Tryz.func84, Tryz.ntmps84
          go_wp2_with (first | (go_at_call 110; refine (digitRow_any s hs _).mono ?_; rintro e _ ⟨rfl, rfl⟩; rw [HN.out]) | (go_at_call 111; refine (letterRow_any s hs _).mono ?_; rintro e _ ⟨rfl, rfl⟩; rw [HM.out]) | (go_at_call 112; refine (wordKind_any _ _ HG.out).mono ?_; rintro e _ ⟨rfl, rfl⟩) | (go_at_call 113; refine (firstSign_any s hs _ HG.out).mono ?_; rintro e w5 ⟨rfl, hb5⟩))
          go_ret2
          exact ⟨rfl, hb5⟩
def cellP (t : PTok) : List Value := [.int .i64 t.kind, .int .i64 t.place, .string (bsOf t.text)]
def cellsP (l : List PTok) : List Value := l.flatMap cellP
theorem cellsP_snoc (l : List PTok) (t : PTok) : cellsP (l ++ [t]) = cellsP l ++ cellP t := by simp [cellsP]
theorem Tryz.infoPTok : (Tryz.prog.info? 114).map (fun i => (i.zero, i.size, i.bytes)) = some (some (.agg #[.int .i64 0, .int .i64 0, .string ⟨#[]⟩]), 3, 32) := by kernel_rfl
def preP (acc : List PTok) : Except Nat (List PTok) → Except Nat (List PTok)
  | .ok l => .ok (acc ++ l)
  | .error e => .error e
theorem preP_app (a b : List PTok) (x : Except Nat (List PTok)) : preP a (preP b x) = preP (a ++ b) x := by cases x <;> simp [preP]
theorem toksP_end (s : ByteArray) (p : Nat) (hp : s.size ≤ p) : toksP (s.toList.drop p) p = .ok [⟨0, p, []⟩] := by
  rw [List.drop_eq_nil_of_le (by rw [toList_length]; omega), toksP_nil]
theorem toksP_blank (s : ByteArray) (p : Nat) (hp : p < s.size) (hb : blankC s[p] = true) : toksP (s.toList.drop p) p = toksP (s.toList.drop (p + 1)) (p + 1) := by
  rw [drop_cons s p hp, toksP_cons, if_pos hb]
theorem toksP_bad (s : ByteArray) (p : Nat) (hp : p < s.size) (hb : blankC s[p] = false) (hn : (firstT (s.toList.drop p)).2 = 0) : toksP (s.toList.drop p) p = .error p := by
  rw [drop_cons s p hp] at hn ⊢
  rw [toksP_cons, if_neg (by simp [hb]), if_pos hn]
theorem toksP_tok (s : ByteArray) (p n k : Nat) (hp : p < s.size) (hb : blankC s[p] = false) (hf : firstT (s.toList.drop p) = (k, n)) (hn : n ≠ 0) :
    toksP (s.toList.drop p) p = preP [⟨k, p, (s.toList.drop p).take n⟩] (toksP (s.toList.drop (p + n)) (p + n)) := by
  rw [show s.toList.drop (p + n) = (s.toList.drop p).drop n by rw [List.drop_drop]]
  rw [drop_cons s p hp] at hf ⊢
  conv => lhs; rw [toksP_cons]
  rw [if_neg (by simp [hb]), if_neg (by rw [hf]; exact hn), hf]
  cases toksP ((s[p] :: s.toList.drop (p + 1)).drop n) (p + n) <;> rfl
theorem cell_three (w : World) (x y z : Value) (e : TypeId) : ∀ j u, [x, y, z][j]? = some u → (w.alloc (.cells #[x, y, z] e)).cell? ((⟨w.heap.size, 0, none⟩ : Addr).add j) = some u := by
  intro j u hj
  match j, hj with
  | 0, hj => simp at hj; subst hj; simp [Addr.add]
  | 1, hj => simp at hj; subst hj; simp [Addr.add]
  | 2, hj => simp at hj; subst hj; simp [Addr.add]
theorem one_three {s : ByteArray} {k k' : IntKind} {n n' : Int} : ∀ u ∈ [Value.int k n, Value.int k' n', Value.string s], u.oneCell' = true := by
  intro u hu
  simp at hu
  rcases hu with rfl | rfl | rfl <;> rfl
theorem scan_step {w wr w1 w2 : World} {acc : List PTok} {v v' : Value} {b : ByteArray} {k p : Nat} {e : TypeId} {o : Obj} (hbel : Below w.heap.size w wr) (hb1 : Below wr.heap.size wr w1)
    (hown2 : w2.ownsRow w.heap.size e 3 v' (acc.length + 1) (cellsP acc ++ [.int .i64 k, .int .i64 p, .string b])) (hg : (w1.alloc o).grownBy w2 v.ownBlock) (hown1 : w1.ownsRow w.heap.size e 3 v acc.length (cellsP acc)) :
    w2.ownsRow w.heap.size e 3 v' (acc ++ [(⟨k, p, b.toList⟩ : PTok)]).length (cellsP (acc ++ [⟨k, p, b.toList⟩])) ∧ Below w.heap.size w w2 := by
  have hs1 := hbel.size
  have hs2 := hb1.size
  refine ⟨?_, ?_⟩
  · rw [cellsP_snoc]
    simp only [cellP, bsOf_of, List.length_append, List.length_cons, List.length_nil]
    exact hown2
  · exact ((hbel.trans (hb1.mono hs1)).alloc (by omega) o).grown hg (by simp; omega) (fun k hk => (hown1.lt k hk).1)
set_option maxHeartbeats 1000000 in
set_option maxRecDepth 10000 in
theorem Scan_any (s : ByteArray) (hs : s.size ≤ 400) (w : World) (hg : GlobT w) :
    Calls Tryz.prog 55 #[.string s] w fun e w' => Below w.heap.size w w' ∧
      ((∃ l v, toksP s.toList 0 = .ok l ∧ l.length ≤ 401 ∧ e = .returned (.tuple #[v, .bool true, .int .i64 0]) ∧ w'.ownsRow w.heap.size 114 3 v l.length (cellsP l)) ∨
       (∃ p, toksP s.toList 0 = .error p ∧ e = .returned (.tuple #[.slice none 0 0, .bool false, .int .i64 p]))) := by
  obtain ⟨i0, hi, hz0, hz1, hz2⟩ := info_parts Tryz.infoPTok
  have HG : Hid (GlobT w) := hg
  clear hg
  go_enter Tryz.func55, Tryz.ntmps55
  go_wp2
  go_loopw [5, 6] (fun v vi wr => ∃ (p : Nat) (acc : List PTok), p ≤ s.size ∧ vi = .int .i64 p ∧ wr.ownsRow w.heap.size 114 3 v acc.length (cellsP acc) ∧ acc.length ≤ p ∧ Below w.heap.size w wr ∧ toksP s.toList 0 = preP acc (toksP (s.toList.drop p) p)) (fun _ i _ => s.size - (intOf i).toNat)
  case atStart => exact ⟨0, [], Nat.zero_le _, rfl, World.ownsRow_made w #[] 0 (Nat.le_refl _) (by unfold maxLen; omega) rfl, Nat.le_refl _, (Below.refl _ _).alloc (Nat.le_refl _) _, by rw [List.drop_zero]; cases toksP s.toList 0 <;> rfl⟩
  case round =>
    obtain ⟨p, acc, hp, rfl, hown, hacc, hbel, hrem⟩ := hrel
    have HR : Hid (toksP s.toList 0 = preP acc (toksP (s.toList.drop p) p)) := hrem
    clear hrem
    have hbs := hbel.size
    by_cases hlt : p < s.size
    · cases hb : blankC s[p]
      · have hrs : (s.extract p s.size).size = s.size - p := by rw [ByteArray.size_extract]; omega
        have hrt : (s.extract p s.size).toList = s.toList.drop p := by rw [extract_bsOf, bsOf_toList, ← toList_length, ← List.length_drop, List.take_length]
        obtain ⟨r, hr⟩ : ∃ r, r = s.extract p s.size := ⟨_, rfl⟩
        have hsl : ∀ wx : World, (Instr.slice 9 (.string s) (some (.int .i64 (p : Int))) none none).run Tryz.prog wx = .ok (.string r) wx := by
          intro wx
          rw [hr, run_slice_string_l wx 9 s Tryz.underlying9 .i64 _ (by omega) (by omega)]
          simp
        rw [← hr] at hrs hrt
        have HRT : Hid (r.toList = s.toList.drop p) := hrt
        have hr4 : r.size ≤ 400 := by omega
        have hfl := firstT_le r.toList
        rw [toList_length] at hfl
        obtain ⟨k, n, hkn⟩ : ∃ k n, firstT r.toList = (k, n) := ⟨_, _, rfl⟩
        rw [hkn] at hfl
        have HKN : Hid (firstT r.toList = (k, n)) := hkn
        have HB : Hid (blankC s[p] = false) := hb
        have hnp : n ≤ r.size := hfl
        have hnps : p + n ≤ s.size := by omega
        clear hrt hr hkn hfl hrs
        by_cases hn0 : n = 0
        · subst hn0
          go_wp2_with (first | (go_at_call 83; refine (isBlank_any _ _).mono ?_; rintro e w9 ⟨rfl, hw9⟩; subst hw9; simp only [hb]) | (go_at_call 84; refine (first_any r hr4 _ (HG.out.below hbel)).mono ?_; rintro e w1 ⟨rfl, hb1⟩; rw [HKN.out]))
          go_ret3
          exact ⟨hbel.trans (hb1.mono hbs), .inr ⟨p, by rw [HR.out, toksP_bad s p hlt HB.out (by rw [← HRT.out, HKN.out])]; rfl, rfl⟩⟩
        · have hn0' : ¬ ((n : Int) = 0) := by omega
          go_wp2_with (first | (go_at_call 83; refine (isBlank_any _ _).mono ?_; rintro e w9 ⟨rfl, hw9⟩; subst hw9; simp only [hb]) | (go_at_call 84; refine (first_any r hr4 _ (HG.out.below hbel)).mono ?_; rintro e w1 ⟨rfl, hb1⟩; rw [HKN.out]; have hown1 := own_below hown hb1; have hs1 := hb1.size) | (at_builtin; refine wpList_append_own _ rfl (.tmp 32) (.tmp 39) 107 rfl w.heap.size 114 i0 (.agg #[.int .i64 0, .int .i64 0, .string ⟨#[]⟩]) 3 32 Tryz.underlying107 hi hz0 hz1 hz2 rfl (by decide) _ _ _ rfl (hown1.alloc _) ⟨w1.heap.size, 0, none⟩ 1 1 [.int .i64 k, .int .i64 p, .string (r.extract 0 n)] rfl rfl (cell_three _ _ _ _ _) one_three (by unfold maxLen; omega) (by omega) (by simp; omega) ?_; intro v' w2 hown2 hgrow2 _))
          have R := scan_step hbel hb1 hown2 hgrow2 hown1
          have HTX : Hid ((s.toList.drop p).take n = (r.extract 0 n).toList) := (by rw [extract_bsOf, bsOf_toList, HRT.out]; simp : (s.toList.drop p).take n = (r.extract 0 n).toList)
          clear hown2 hgrow2 hown1
          go_roundw
          case rel => exact ⟨p + n, acc ++ [⟨k, p, (r.extract 0 n).toList⟩], by omega, by go_num, R.1, by simp; omega, R.2, by rw [HR.out, toksP_tok s p n k hlt HB.out (by rw [← HRT.out]; exact HKN.out) hn0, preP_app, HTX.out]⟩
          case measure => simp [intOf]; omega
      · go_wp2_with (first | (go_at_call 83; refine (isBlank_any _ _).mono ?_; rintro e w9 ⟨rfl, hw9⟩; subst hw9; simp only [hb]))
        go_roundw
        case rel => exact ⟨p + 1, acc, by omega, by go_num, hown, by omega, hbel, by rw [HR.out, toksP_blank s p hlt hb]⟩
        case measure => simp [intOf]; omega
    · go_wp2_with (at_builtin; refine wpList_append_own _ rfl (.tmp 44) (.tmp 47) 107 rfl w.heap.size 114 i0 (.agg #[.int .i64 0, .int .i64 0, .string ⟨#[]⟩]) 3 32 Tryz.underlying107 hi hz0 hz1 hz2 rfl (by decide) _ _ _ rfl (hown.alloc _) ⟨wr.heap.size, 0, none⟩ 1 1 [.int .i64 0, .int .i64 p, .string (⟨#[]⟩)] rfl rfl (cell_three _ _ _ _ _) one_three (by unfold maxLen; omega) (by omega) (by simp; omega) ?_; intro v' w2 hown2 hgrow2 _)
      have R := scan_step (k := 0) (p := p) (b := ⟨#[]⟩) hbel (Below.refl _ _) hown2 hgrow2 hown
      rw [show (⟨#[]⟩ : ByteArray).toList = [] by rw [ByteArray.toList_eq]] at R
      go_ret3
      exact ⟨R.2, .inl ⟨acc ++ [⟨0, p, []⟩], v', by rw [HR.out, toksP_end s p (by omega)]; rfl, by simp; omega, rfl, R.1⟩⟩
end Go.Proofs.YtjjbmbjmdgoofaaGreatDoor
namespace Go.Proofs.YtjjbmbjmdgoofaaGreatDoor
def bindK (k : Nat) : Nat :=
  if k = 8 then 1 else if k = 7 then 2 else if k = 23 ∨ k = 24 ∨ k = 25 ∨ k = 26 then 3 else if k = 27 ∨ k = 28 then 4 else if k = 29 ∨ k = 30 ∨ k = 31 then 5 else 0
def singleK (k : Nat) : Bool := decide (k = 1) || decide (k = 2) || (decide (10 ≤ k) && decide (k ≤ 21))
theorem wordGo_cases (t : Txt) : ∀ (l : List Txt) (i : Nat), (l.contains t = false ∧ wordGo l i t = 2) ∨ ∃ k, ∃ h : k < l.length, t = l[k] ∧ wordGo l i t = 3 + (i + k)
  | [], i => Or.inl ⟨rfl, rfl⟩
  | x :: r, i => by
    by_cases h : x = t
    · subst h
      exact Or.inr ⟨0, by simp, rfl, by simp [wordGo]⟩
    · have hb : (x == t) = false := by simpa using h
      rcases wordGo_cases t r (i + 1) with ⟨h1, h2⟩ | ⟨k, hk, h1, h2⟩
      · refine Or.inl ⟨by rw [List.contains_cons, h1, Bool.or_false, beq_eq_false_iff_ne]; exact fun hh => h hh.symm, by simp [wordGo, hb, h2]⟩
      · exact Or.inr ⟨k + 1, by simp; omega, by simpa using h1, by simp only [wordGo, hb]; simp; rw [h2]; omega⟩
theorem signKind_cases (t : Txt) : ∀ (l : List Txt) (i : Nat), (l.contains t = false ∧ signKind l i t = 0) ∨ ∃ k, ∃ h : k < l.length, t = l[k] ∧ signKind l i t = 22 + (i + k)
  | [], i => Or.inl ⟨rfl, rfl⟩
  | x :: r, i => by
    by_cases h : x = t
    · subst h
      exact Or.inr ⟨0, by simp, rfl, by simp [signKind]⟩
    · have hb : (x == t) = false := by simpa using h
      rcases signKind_cases t r (i + 1) with ⟨h1, h2⟩ | ⟨k, hk, h1, h2⟩
      · refine Or.inl ⟨by rw [List.contains_cons, h1, Bool.or_false, beq_eq_false_iff_ne]; exact fun hh => h hh.symm, by simp [signKind, hb, h2]⟩
      · exact Or.inr ⟨k + 1, by simp; omega, by simpa using h1, by simp only [signKind, hb]; simp; rw [h2]; omega⟩
theorem kind_cases (t : Txt) (h : mayT t = true) :
    (isDig (headC t) = true ∧ kindP t = 1) ∨ (isLet (headC t) = true ∧ tWords.contains t = false ∧ kindP t = 2) ∨
    (∃ k, ∃ hk : k < 19, t = tWords[k]'hk ∧ kindP t = 3 + k) ∨ (∃ k, ∃ hk : k < 12, t = tSign[k]'hk ∧ kindP t = 22 + k) := by
  unfold kindP
  cases h1 : isDig (headC t) with
  | true => exact Or.inl ⟨rfl, by simp⟩
  | false =>
    cases h2 : isLet (headC t) with
    | true =>
      rcases wordGo_cases t tWords 0 with ⟨h3, h4⟩ | ⟨k, hk, h3, h4⟩
      · exact Or.inr (Or.inl ⟨rfl, h3, by simpa [wordKindT] using h4⟩)
      · exact Or.inr (Or.inr (Or.inl ⟨k, hk, h3, by simpa [wordKindT] using h4⟩))
    | false =>
      rcases signKind_cases t tSign 0 with ⟨h3, h4⟩ | ⟨k, hk, h3, h4⟩
      · unfold mayT at h
        simp only [h1, h2, signT, h3] at h
        cases h
      · exact Or.inr (Or.inr (Or.inr ⟨k, hk, h3, by simpa using h4⟩))
structure KindOf (t : Txt) : Prop where
  pos : kindP t ≠ 0
  klet : kindP t = 3 ↔ t = cLet
  kwhen : kindP t = 4 ↔ t = cWhen
  kscore : kindP t = 5 ↔ t = cScore
  krej : kindP t = 6 ↔ t = cReject
  kand : kindP t = 7 ↔ t = cAnd
  kor : kindP t = 8 ↔ t = cOr
  knot : kindP t = 9 ↔ t = cNot
  ksemi : kindP t = 22 ↔ t = cSemi
  keq : kindP t = 23 ↔ t = cEq
  kminus : kindP t = 28 ↔ t = cMinus
  kopen : kindP t = 32 ↔ t = cOpen
  kclose : kindP t = 33 ↔ t = cClose
  kname : kindP t = 2 ↔ nameT t = true
  single : singleK (kindP t) = singleT t
  binds : bindK (kindP t) = bindsT t
  joint : jointT t = decide (0 < bindK (kindP t))
  le : kindP t ≤ 33
theorem words_sub (t : Txt) (h : tWords.contains t = false) : leafT t = false ∧ ownT t = false := by
  simp only [tWords, List.contains_cons, List.contains_nil, Bool.or_false, Bool.or_eq_false_iff] at h
  obtain ⟨h1, h2, h3, h4, h5, h6, h7, h8, h9, h10, h11, h12, h13, h14, h15, h16, h17, h18, h19⟩ := h
  constructor
  · simp only [leafT, tLeaf, List.contains_cons, List.contains_nil, Bool.or_false, Bool.or_eq_false_iff]
    exact ⟨h8, h9, h10, h11, h12, h13, h14, h15, h16, h17, h18, h19⟩
  · simp only [ownT, tOwn, List.contains_cons, List.contains_nil, Bool.or_false, Bool.or_eq_false_iff]
    exact ⟨h1, h2, h3, h4, h5, h6, h7⟩
theorem kindOf (t : Txt) (h : mayT t = true) : KindOf t := by
  rcases kind_cases t h with ⟨h1, h2⟩ | ⟨h1, h2, h3⟩ | ⟨k, hk, rfl, h2⟩ | ⟨k, hk, rfl, h2⟩
  · have hn : ∀ u : Txt, isDig (headC u) = false → t ≠ u := fun u hu e => by rw [e, hu] at h1; cases h1
    have hb : bindsT t = 0 := by
      have : jointT t = false := by
        unfold jointT
        simp only [tJoint, List.contains_cons, List.contains_nil, Bool.or_false, Bool.or_eq_false_iff, beq_eq_false_iff_ne]
        refine ⟨?_, ?_, ?_, ?_, ?_, ?_, ?_, ?_, ?_, ?_, ?_⟩ <;> exact hn _ (by decide)
      have := joint_binds t
      cases hz : bindsT t with
      | zero => rfl
      | succ m => exact absurd (this.2 (by omega)) (by simp [*])
    have hj : jointT t = false := by cases e : jointT t with | false => rfl | true => have := (joint_binds t).1 e; omega
    have hl : isLet (headC t) = false := by
      unfold isLet isDig at *
      simp only [Bool.and_eq_true, decide_eq_true_eq, Bool.and_eq_false_iff, decide_eq_false_iff_not] at *
      left
      intro h5
      exact absurd (UInt8.le_trans h5 h1.2) (by decide)
    have hnm : nameT t = false := by simp [nameT, hl]
    have hsg : singleT t = true := by simp [singleT, h1]
    refine ⟨?_, ?_, ?_, ?_, ?_, ?_, ?_, ?_, ?_, ?_, ?_, ?_, ?_, ?_, ?_, ?_, ?_, ?_⟩ <;> rw [h2]
    · decide
    iterate 12 exact ⟨fun h => absurd h (by decide), fun h => absurd h (hn _ (by decide))⟩
    · rw [hnm]; simp
    · rw [hsg]; rfl
    · rw [hb]; rfl
    · rw [hj]; rfl
    · decide
  · have hw := words_sub t h2
    have hd : isDig (headC t) = false := by
      unfold isLet isDig at *
      simp only [Bool.and_eq_true, decide_eq_true_eq, Bool.and_eq_false_iff, decide_eq_false_iff_not] at *
      right
      intro h5
      exact absurd (UInt8.le_trans h1.1 h5) (by decide)
    have hn : ∀ u : Txt, isLet (headC u) = false → t ≠ u := fun u hu e => by rw [e, hu] at h1; cases h1
    have hn2 : ∀ u : Txt, ownT u = true → t ≠ u := fun u hu e => by rw [e, hu] at hw; cases hw.2
    have hj : jointT t = false := by
      unfold jointT
      simp only [tJoint, List.contains_cons, List.contains_nil, Bool.or_false, Bool.or_eq_false_iff, beq_eq_false_iff_ne]
      refine ⟨hn2 _ (by decide), hn2 _ (by decide), ?_, ?_, ?_, ?_, ?_, ?_, ?_, ?_, ?_⟩ <;> exact hn _ (by decide)
    have hb : bindsT t = 0 := by
      have := joint_binds t
      cases hz : bindsT t with
      | zero => rfl
      | succ m => exact absurd (this.2 (by omega)) (by simp [*])
    have hnm : nameT t = true := by simp [nameT, h1, hw.1, hw.2]
    have hsg : singleT t = true := by simp [singleT, hnm]
    refine ⟨?_, ?_, ?_, ?_, ?_, ?_, ?_, ?_, ?_, ?_, ?_, ?_, ?_, ?_, ?_, ?_, ?_, ?_⟩ <;> rw [h3]
    · decide
    iterate 7 exact ⟨fun h => absurd h (by decide), fun h => absurd h (hn2 _ (by decide))⟩
    iterate 5 exact ⟨fun h => absurd h (by decide), fun h => absurd h (hn _ (by decide))⟩
    · rw [hnm]; simp
    · rw [hsg]; rfl
    · rw [hb]; rfl
    · rw [hj]; rfl
    · decide
  · have : ∀ u ∈ tWords, KindOf u := by
      intro u hu
      simp only [tWords, List.mem_cons, List.not_mem_nil, or_false] at hu
      rcases hu with rfl | rfl | rfl | rfl | rfl | rfl | rfl | rfl | rfl | rfl | rfl | rfl | rfl | rfl | rfl | rfl | rfl | rfl | rfl
      all_goals (clear h2 h; refine ⟨?_, ?_, ?_, ?_, ?_, ?_, ?_, ?_, ?_, ?_, ?_, ?_, ?_, ?_, ?_, ?_, ?_, ?_⟩ <;> decide)
    exact this _ (List.getElem_mem _)
  · have : ∀ u ∈ tSign, KindOf u := by
      intro u hu
      simp only [tSign, List.mem_cons, List.not_mem_nil, or_false] at hu
      rcases hu with rfl | rfl | rfl | rfl | rfl | rfl | rfl | rfl | rfl | rfl | rfl | rfl
      all_goals (clear h2 h; refine ⟨?_, ?_, ?_, ?_, ?_, ?_, ?_, ?_, ?_, ?_, ?_, ?_, ?_, ?_, ?_, ?_, ?_, ?_⟩ <;> decide)
    exact this _ (List.getElem_mem _)
end Go.Proofs.YtjjbmbjmdgoofaaGreatDoor
namespace Go.Proofs.YtjjbmbjmdgoofaaGreatDoor
open Go.RowKit
set_option maxHeartbeats 1000000 in
theorem binding_any (k : Nat) (w : World) :
    Calls Tryz.prog 156 #[.int .i64 k] w fun e w' => e = .returned (.int .i64 (bindK k)) ∧ w' = w := by
  go_enter Tryz.func156, Tryz.ntmps156
  go_wp2
  all_goals go_ret
  all_goals exact ⟨ret_int (by simp at *; unfold bindK; (repeat' split) <;> omega), rfl⟩
set_option maxHeartbeats 1000000 in
theorem isSingle_any (k : Nat) (w : World) :
    Calls Tryz.prog 172 #[.int .i64 k] w fun e w' => e = .returned (.bool (singleK k)) ∧ w' = w := by
  rcases (show k = 1 ∨ k = 2 ∨ (k ≠ 1 ∧ k ≠ 2 ∧ k < 10) ∨ (k ≠ 1 ∧ k ≠ 2 ∧ 10 ≤ k ∧ k ≤ 21) ∨ (k ≠ 1 ∧ k ≠ 2 ∧ 10 ≤ k ∧ 21 < k) by omega) with rfl | rfl | ⟨h1, h2, h3⟩ | ⟨h1, h2, h3, h4⟩ | ⟨h1, h2, h3, h4⟩
  · go_enter Tryz.func172, Tryz.ntmps172
    go_wp2
    go_ret
    exact ⟨rfl, rfl⟩
  · go_enter Tryz.func172, Tryz.ntmps172
    go_wp2
    go_ret
    exact ⟨rfl, rfl⟩
  all_goals
    have e1 : ((k : Int) == 1) = false := by simp; omega
    have e2 : ((k : Int) == 2) = false := by simp; omega
    go_enter Tryz.func172, Tryz.ntmps172
    go_wp2
    all_goals go_ret
    all_goals exact ⟨ret_bool (by unfold singleK; rw [Bool.eq_iff_iff]; simp; omega), rfl⟩
end Go.Proofs.YtjjbmbjmdgoofaaGreatDoor
