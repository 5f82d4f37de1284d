/-
  Pieces: what joined, either, turned and loose make of pieces of known making.
-/
import Derived.Test.YtjjbmbjmdgoofaaGreatDoorB37
import Derived.Test.YtjjbmbjmdgoofaaGreatDoorB38
import Derived.Test.YtjjbmbjmdgoofaaGreatDoorB39
import Derived.Test.YtjjbmbjmdgoofaaGreatDoorB40
set_option linter.unusedVariables false
set_option linter.unusedSimpArgs false
namespace Go.Proofs.YtjjbmbjmdgoofaaGreatDoor
open Go.RowKit Go.Deep
theorem tl (l : List UInt8) (m : List UInt8) : ((⟨l.toArray⟩ : ByteArray).toList == m) = (l == m) := by rw [toL_mk]
section
variable {C : Ctx → Prop} {t t1 t2 : ByteArray} {b b1 b2 : Nat} {k k1 k2 : Wo} {kd L D P S : Nat} {fx : Bool}
theorem joined_num {o : ByteArray} {op : Txt} {lv n j : Nat} (ho : o.toList = op) (hop : op = cPlus ∨ op = cMinus ∨ op = cTimes ∨ op = cDiv ∨ op = cMod) (hlv : bindsT op = lv) (hn : kindP op = n) (hj : opK n 2 = j) (hsz : o.size ≤ 10)
    (hcc : ∀ v1 v2 : Int, In64 v1 → In64 v2 → ∀ wx, Calls Tryz.prog 79 #[.string o, .int .i64 v1, .int .i64 v2] wx fun e w' => e = .returned (.tuple #[.int .i64 (joinN j v1 v2).1, .int .i64 (joinN j v1 v2).2]) ∧ Below wx.heap.size wx w')
    (hC : ∀ E, C E → E.Ok) (h1 : Pc C t1 b1 k1 1 L D P S fx) (h2 : Pc C t2 b2 k2 1 L D P S fx) (hL : L ≤ 400) (hS : S ≤ 4000) (w : World) :
    Calls Tryz.prog 51 #[pcV t1 b1 k1, .string o, .int .i64 lv, pcV t2 b2 k2] w fun e w' => (∃ t b k, Pc C t b k 1 (L + L + 5) (D + 1) (P + P + 1) (S + S + 2) fx ∧ e = .returned (pcV t b k)) ∧ Below w.heap.size w w' := by
  have J := Pc.arith ho hop hC h1 h2
  rw [hlv, hn] at J
  have hl5 : lv ≤ 5 := by rw [← hlv]; exact bindsT_le op
  have hT := twoT_of o t1 t2 b1 b2 k1 k2 lv hsz (by have := h1.size; omega) (by have := h2.size; omega) hl5
  have q1 := h1.steps
  have q2 := h2.steps
  have hcx := hcc k1.v k2.v h1.fit.in64 h2.fit.in64
  have e1 : (o.toList == [60]) = false := by rw [ho]; rcases hop with rfl | rfl | rfl | rfl | rfl <;> decide
  have e2 : (o.toList == [60, 61]) = false := by rw [ho]; rcases hop with rfl | rfl | rfl | rfl | rfl <;> decide
  have e3 : (o.toList == [61]) = false := by rw [ho]; rcases hop with rfl | rfl | rfl | rfl | rfl <;> decide
  have e4 : (o.toList == [33, 61]) = false := by rw [ho]; rcases hop with rfl | rfl | rfl | rfl | rfl <;> decide
  obtain ⟨v1, f1, s1, x1⟩ := k1
  obtain ⟨v2, f2, s2, x2⟩ := k2
  simp only at q1 q2 hcx
  cases x1 with
  | true => exact (joined_ar_t o t1 t2 _ _ b1 v1 f1 s1 b2 v2 f2 s2 x2 n lv hT (by omega) (by omega) e1 e2 e3 e4 _ _ (by rw [hj]) hcx w).mono (fun e w' h => ⟨⟨_, _, _, J, h.1⟩, h.2⟩)
  | false => exact (joined_ar_f o t1 t2 _ _ b1 v1 f1 s1 b2 v2 f2 s2 x2 n lv hT (by omega) (by omega) e1 e2 e3 e4 _ _ (by rw [hj]) hcx w).mono (fun e w' h => ⟨⟨_, _, _, J, h.1⟩, h.2⟩)
theorem joined_cmp {o : ByteArray} {op : Txt} {n : Nat} (ho : o.toList = op) (hop : op = cLess ∨ op = cMost ∨ op = cEq ∨ op = cNeq) (hkd : kd = 1 ∨ (kd = 3 ∧ (op = cEq ∨ op = cNeq))) (hn : kindP op = n) (hsz : o.size ≤ 10)
    (hC : ∀ E, C E → E.Ok) (h1 : Pc C t1 b1 k1 kd L D P S fx) (h2 : Pc C t2 b2 k2 kd L D P S fx) (hL : L ≤ 400) (hS : S ≤ 4000) (w : World) :
    Calls Tryz.prog 51 #[pcV t1 b1 k1, .string o, .int .i64 3, pcV t2 b2 k2] w fun e w' => (∃ t b k, Pc C t b k 2 (L + L + 6) (D + 1) (P + P + 1) (S + S + 2) fx ∧ e = .returned (pcV t b k)) ∧ Below w.heap.size w w' := by
  have J := Pc.compare ho hop hkd hC h1 h2
  rw [hn] at J
  have hT := twoT_of o t1 t2 b1 b2 k1 k2 3 hsz (by have := h1.size; omega) (by have := h2.size; omega) (by omega)
  have q1 := h1.steps
  have q2 := h2.steps
  obtain ⟨v1, f1, s1, x1⟩ := k1
  obtain ⟨v2, f2, s2, x2⟩ := k2
  simp only at q1 q2
  obtain ⟨yes, hj, hsel⟩ : ∃ yes, joinN (opK n 2) v1 v2 = (bitN yes, 0) ∧ (((o.toList == [60]) = true ∧ decide (v1 < v2) = yes) ∨ ((o.toList == [60]) = false ∧ (o.toList == [60, 61]) = true ∧ decide (v1 ≤ v2) = yes) ∨ ((o.toList == [60]) = false ∧ (o.toList == [60, 61]) = false ∧ (o.toList == [61]) = true ∧ (v1 == v2) = yes) ∨ ((o.toList == [60]) = false ∧ (o.toList == [60, 61]) = false ∧ (o.toList == [61]) = false ∧ (o.toList == [33, 61]) = true ∧ (v1 != v2) = yes)) := by
    rw [ho, ← hn]
    rcases hop with rfl | rfl | rfl | rfl
    · exact ⟨_, rfl, .inl ⟨by decide, rfl⟩⟩
    · exact ⟨_, rfl, .inr (.inl ⟨by decide, by decide, rfl⟩)⟩
    · refine ⟨_, ?_, .inr (.inr (.inl ⟨by decide, by decide, by decide, rfl⟩))⟩
      show (bitN (decide (v1 = v2)), 0) = _
      congr 2
    · refine ⟨_, ?_, .inr (.inr (.inr ⟨by decide, by decide, by decide, by decide, rfl⟩))⟩
      show (bitN (decide (v1 ≠ v2)), 0) = _
      congr 2
      by_cases h : v1 = v2 <;> simp [h]
  cases x1 with
  | true => exact (joined_cp_t o t1 t2 _ _ b1 v1 f1 s1 b2 v2 f2 s2 x2 n 3 hT (by omega) (by omega) yes hj hsel w).mono (fun e w' h => ⟨⟨_, _, _, J, h.1⟩, h.2⟩)
  | false => exact (joined_cp_f o t1 t2 _ _ b1 v1 f1 s1 b2 v2 f2 s2 x2 n 3 hT (by omega) (by omega) yes hj hsel w).mono (fun e w' h => ⟨⟨_, _, _, J, h.1⟩, h.2⟩)
theorem either_mk {o : ByteArray} {op : Txt} {lv n : Nat} (ho : o.toList = op) (hop : op = cAnd ∨ op = cOr) (hlv : bindsT op = lv) (hn : kindP op = n) (hsz : o.size ≤ 10)
    (hC : ∀ E, C E → E.Ok) (h1 : Pc C t1 b1 k1 2 L D P S fx) (h2 : Pc C t2 b2 k2 2 L D P S fx) (hL : L ≤ 400) (hS : S ≤ 4000) (w : World) :
    Calls Tryz.prog 82 #[pcV t1 b1 k1, .string o, .int .i64 lv, pcV t2 b2 k2] w fun e w' => (∃ t b k, Pc C t b k 2 (L + L + 7) (D + 1) (P + P + 1) (S + S + 2) fx ∧ e = .returned (pcV t b k)) ∧ Below w.heap.size w w' := by
  have J := Pc.choose ho hop hC h1 h2
  rw [hlv, hn] at J
  have hl5 : lv ≤ 5 := by rw [← hlv]; exact bindsT_le op
  have hT := twoT_of o t1 t2 b1 b2 k1 k2 lv hsz (by have := h1.size; omega) (by have := h2.size; omega) hl5
  have q1 := h1.steps
  have q2 := h2.steps
  have u1 := h1.fit.truth rfl
  have n1 := h1.fit.nul
  have n2 := h2.fit.nul
  obtain ⟨v1, f1, s1, x1⟩ := k1
  obtain ⟨v2, f2, s2, x2⟩ := k2
  simp only at q1 q2 u1 n1 n2
  have hsel : (((o.toList == [97, 110, 100]) == (v1 == 1)) = true ∧ v1 ≠ decK n) ∨ (((o.toList == [97, 110, 100]) == (v1 == 1)) = false ∧ v1 = decK n) := by
    rw [ho, ← hn]
    rcases hop with rfl | rfl <;> rcases u1 with rfl | rfl
    · right; decide
    · left; decide
    · left; decide
    · right; decide
  rcases hsel with ⟨a, d⟩ | ⟨a, d⟩ <;> cases x1
  · exact (either_a_f o t1 t2 _ _ b1 v1 f1 s1 b2 v2 f2 s2 x2 n lv hT (by omega) (by omega) n1 n2 (fun _ => d) a w).mono (fun e w' h => ⟨⟨_, _, _, J, h.1⟩, h.2⟩)
  · exact (either_a_t o t1 t2 _ _ b1 v1 f1 s1 b2 v2 f2 s2 x2 n lv hT (by omega) (by omega) n1 n2 (fun _ => d) a w).mono (fun e w' h => ⟨⟨_, _, _, J, h.1⟩, h.2⟩)
  · exact (either_b_f o t1 t2 _ _ b1 v1 f1 s1 b2 v2 f2 s2 x2 n lv hT (by omega) (by omega) n1 n2 d a w).mono (fun e w' h => ⟨⟨_, _, _, J, h.1⟩, h.2⟩)
  · exact (either_b_t o t1 t2 _ _ b1 v1 f1 s1 b2 v2 f2 s2 x2 n lv hT (by omega) (by omega) n1 n2 d a w).mono (fun e w' h => ⟨⟨_, _, _, J, h.1⟩, h.2⟩)
theorem joined_plus (hC : ∀ E, C E → E.Ok) (h1 : Pc C t1 b1 k1 1 L D P S fx) (h2 : Pc C t2 b2 k2 1 L D P S fx) (hL : L ≤ 400) (hS : S ≤ 4000) (w : World) :
    Calls Tryz.prog 51 #[pcV t1 b1 k1, .string ⟨#[43]⟩, .int .i64 4, pcV t2 b2 k2] w fun e w' => (∃ t b k, Pc C t b k 1 (L + L + 5) (D + 1) (P + P + 1) (S + S + 2) fx ∧ e = .returned (pcV t b k)) ∧ Below w.heap.size w w' :=
  joined_num (op := cPlus) (lv := 4) (j := 4) (toL_mk _) (.inl rfl) (by decide) rfl (by decide) (by decide) (fun v1 v2 i1 i2 wx => counted_any 4 ⟨by omega, by omega⟩ v1 v2 i1 i2 wx) hC h1 h2 hL hS w
theorem joined_less1 (hC : ∀ E, C E → E.Ok) (h1 : Pc C t1 b1 k1 1 L D P S fx) (h2 : Pc C t2 b2 k2 1 L D P S fx) (hL : L ≤ 400) (hS : S ≤ 4000) (w : World) :
    Calls Tryz.prog 51 #[pcV t1 b1 k1, .string ⟨#[45]⟩, .int .i64 4, pcV t2 b2 k2] w fun e w' => (∃ t b k, Pc C t b k 1 (L + L + 5) (D + 1) (P + P + 1) (S + S + 2) fx ∧ e = .returned (pcV t b k)) ∧ Below w.heap.size w w' :=
  joined_num (op := cMinus) (lv := 4) (j := 5) (toL_mk _) (.inr (.inl rfl)) (by decide) rfl (by decide) (by decide) (fun v1 v2 i1 i2 wx => counted_any 5 ⟨by omega, by omega⟩ v1 v2 i1 i2 wx) hC h1 h2 hL hS w
theorem joined_times (hC : ∀ E, C E → E.Ok) (h1 : Pc C t1 b1 k1 1 L D P S fx) (h2 : Pc C t2 b2 k2 1 L D P S fx) (hL : L ≤ 400) (hS : S ≤ 4000) (w : World) :
    Calls Tryz.prog 51 #[pcV t1 b1 k1, .string ⟨#[42]⟩, .int .i64 5, pcV t2 b2 k2] w fun e w' => (∃ t b k, Pc C t b k 1 (L + L + 5) (D + 1) (P + P + 1) (S + S + 2) fx ∧ e = .returned (pcV t b k)) ∧ Below w.heap.size w w' :=
  joined_num (op := cTimes) (lv := 5) (j := 6) (toL_mk _) (.inr (.inr (.inl rfl))) (by decide) rfl (by decide) (by decide) (fun v1 v2 i1 i2 wx => counted_any 6 ⟨by omega, by omega⟩ v1 v2 i1 i2 wx) hC h1 h2 hL hS w
theorem joined_quot (hC : ∀ E, C E → E.Ok) (h1 : Pc C t1 b1 k1 1 L D P S fx) (h2 : Pc C t2 b2 k2 1 L D P S fx) (hL : L ≤ 400) (hS : S ≤ 4000) (w : World) :
    Calls Tryz.prog 51 #[pcV t1 b1 k1, .string ⟨#[47]⟩, .int .i64 5, pcV t2 b2 k2] w fun e w' => (∃ t b k, Pc C t b k 1 (L + L + 5) (D + 1) (P + P + 1) (S + S + 2) fx ∧ e = .returned (pcV t b k)) ∧ Below w.heap.size w w' :=
  joined_num (op := cDiv) (lv := 5) (j := 7) (toL_mk _) (.inr (.inr (.inr (.inl rfl)))) (by decide) rfl (by decide) (by decide) (fun v1 v2 i1 i2 wx => counted_any 7 ⟨by omega, by omega⟩ v1 v2 i1 i2 wx) hC h1 h2 hL hS w
theorem joined_rest (hC : ∀ E, C E → E.Ok) (h1 : Pc C t1 b1 k1 1 L D P S fx) (h2 : Pc C t2 b2 k2 1 L D P S fx) (hL : L ≤ 400) (hS : S ≤ 4000) (w : World) :
    Calls Tryz.prog 51 #[pcV t1 b1 k1, .string ⟨#[37]⟩, .int .i64 5, pcV t2 b2 k2] w fun e w' => (∃ t b k, Pc C t b k 1 (L + L + 5) (D + 1) (P + P + 1) (S + S + 2) fx ∧ e = .returned (pcV t b k)) ∧ Below w.heap.size w w' :=
  joined_num (op := cMod) (lv := 5) (j := 8) (toL_mk _) (.inr (.inr (.inr (.inr rfl)))) (by decide) rfl (by decide) (by decide) (fun v1 v2 i1 i2 wx => counted_any 8 ⟨by omega, by omega⟩ v1 v2 i1 i2 wx) hC h1 h2 hL hS w
theorem joined_lt (hkd : kd = 1) (hC : ∀ E, C E → E.Ok) (h1 : Pc C t1 b1 k1 kd L D P S fx) (h2 : Pc C t2 b2 k2 kd L D P S fx) (hL : L ≤ 400) (hS : S ≤ 4000) (w : World) :
    Calls Tryz.prog 51 #[pcV t1 b1 k1, .string ⟨#[60]⟩, .int .i64 3, pcV t2 b2 k2] w fun e w' => (∃ t b k, Pc C t b k 2 (L + L + 6) (D + 1) (P + P + 1) (S + S + 2) fx ∧ e = .returned (pcV t b k)) ∧ Below w.heap.size w w' :=
  joined_cmp (op := cLess) (toL_mk _) (.inl rfl) (.inl hkd) rfl (by decide) hC h1 h2 hL hS w
theorem joined_le (hkd : kd = 1) (hC : ∀ E, C E → E.Ok) (h1 : Pc C t1 b1 k1 kd L D P S fx) (h2 : Pc C t2 b2 k2 kd L D P S fx) (hL : L ≤ 400) (hS : S ≤ 4000) (w : World) :
    Calls Tryz.prog 51 #[pcV t1 b1 k1, .string ⟨#[60, 61]⟩, .int .i64 3, pcV t2 b2 k2] w fun e w' => (∃ t b k, Pc C t b k 2 (L + L + 6) (D + 1) (P + P + 1) (S + S + 2) fx ∧ e = .returned (pcV t b k)) ∧ Below w.heap.size w w' :=
  joined_cmp (op := cMost) (toL_mk _) (.inr (.inl rfl)) (.inl hkd) rfl (by decide) hC h1 h2 hL hS w
theorem joined_eq (hkd : kd = 1 ∨ kd = 3) (hC : ∀ E, C E → E.Ok) (h1 : Pc C t1 b1 k1 kd L D P S fx) (h2 : Pc C t2 b2 k2 kd L D P S fx) (hL : L ≤ 400) (hS : S ≤ 4000) (w : World) :
    Calls Tryz.prog 51 #[pcV t1 b1 k1, .string ⟨#[61]⟩, .int .i64 3, pcV t2 b2 k2] w fun e w' => (∃ t b k, Pc C t b k 2 (L + L + 6) (D + 1) (P + P + 1) (S + S + 2) fx ∧ e = .returned (pcV t b k)) ∧ Below w.heap.size w w' :=
  joined_cmp (op := cEq) (toL_mk _) (.inr (.inr (.inl rfl))) (hkd.imp id (fun h => ⟨h, .inl rfl⟩)) rfl (by decide) hC h1 h2 hL hS w
theorem joined_ne (hkd : kd = 1 ∨ kd = 3) (hC : ∀ E, C E → E.Ok) (h1 : Pc C t1 b1 k1 kd L D P S fx) (h2 : Pc C t2 b2 k2 kd L D P S fx) (hL : L ≤ 400) (hS : S ≤ 4000) (w : World) :
    Calls Tryz.prog 51 #[pcV t1 b1 k1, .string ⟨#[33, 61]⟩, .int .i64 3, pcV t2 b2 k2] w fun e w' => (∃ t b k, Pc C t b k 2 (L + L + 6) (D + 1) (P + P + 1) (S + S + 2) fx ∧ e = .returned (pcV t b k)) ∧ Below w.heap.size w w' :=
  joined_cmp (op := cNeq) (toL_mk _) (.inr (.inr (.inr rfl))) (hkd.imp id (fun h => ⟨h, .inr rfl⟩)) rfl (by decide) hC h1 h2 hL hS w
theorem either_and (hC : ∀ E, C E → E.Ok) (h1 : Pc C t1 b1 k1 2 L D P S fx) (h2 : Pc C t2 b2 k2 2 L D P S fx) (hL : L ≤ 400) (hS : S ≤ 4000) (w : World) :
    Calls Tryz.prog 82 #[pcV t1 b1 k1, .string ⟨#[97, 110, 100]⟩, .int .i64 2, pcV t2 b2 k2] w fun e w' => (∃ t b k, Pc C t b k 2 (L + L + 7) (D + 1) (P + P + 1) (S + S + 2) fx ∧ e = .returned (pcV t b k)) ∧ Below w.heap.size w w' :=
  either_mk (op := cAnd) (lv := 2) (toL_mk _) (.inl rfl) (by decide) rfl (by decide) hC h1 h2 hL hS w
theorem either_or (hC : ∀ E, C E → E.Ok) (h1 : Pc C t1 b1 k1 2 L D P S fx) (h2 : Pc C t2 b2 k2 2 L D P S fx) (hL : L ≤ 400) (hS : S ≤ 4000) (w : World) :
    Calls Tryz.prog 82 #[pcV t1 b1 k1, .string ⟨#[111, 114]⟩, .int .i64 1, pcV t2 b2 k2] w fun e w' => (∃ t b k, Pc C t b k 2 (L + L + 7) (D + 1) (P + P + 1) (S + S + 2) fx ∧ e = .returned (pcV t b k)) ∧ Below w.heap.size w w' :=
  either_mk (op := cOr) (lv := 1) (toL_mk _) (.inr rfl) (by decide) rfl (by decide) hC h1 h2 hL hS w
theorem turned_neg (hC : ∀ E, C E → E.Ok) (h : Pc C t b k 1 L D P S fx) (hL : L ≤ 400) (hS : S ≤ 4000) (w : World) :
    Calls Tryz.prog 52 #[.string ⟨#[45]⟩, pcV t b k] w fun e w' => (∃ t b k, Pc C t b k 1 (L + 1) D (P + 1) (S + 1) fx ∧ e = .returned (pcV t b k)) ∧ Below w.heap.size w w' := by
  have J := Pc.minus hC h
  have z1 := h.size
  have q1 := h.steps
  have i1 := h.fit.in64
  obtain ⟨v, f, s, x⟩ := k
  simp only at q1 i1
  have hob : ((⟨#[45]⟩ : ByteArray).toList == [110, 111, 116, 32]) = false := by rw [show (⟨#[45]⟩ : ByteArray).toList = [45] from toL_mk _]; decide
  by_cases hl : v = -9223372036854775808
  · subst hl
    exact (turned_least ⟨#[45]⟩ t b f s x (by decide) (by omega) (by omega) hob w).mono (fun e w' h => ⟨⟨_, _, _, J, h.1⟩, h.2⟩)
  · exact (turned_minus ⟨#[45]⟩ t b v i1 hl f s x (by decide) (by omega) (by omega) hob w).mono (fun e w' h => ⟨⟨_, _, _, J, h.1⟩, h.2⟩)
theorem turned_nott (hC : ∀ E, C E → E.Ok) (h : Pc C t b k 2 L D P S fx) (hL : L ≤ 400) (hS : S ≤ 4000) (w : World) :
    Calls Tryz.prog 52 #[.string ⟨#[110, 111, 116, 32]⟩, pcV t b k] w fun e w' => (∃ t b k, Pc C t b k 2 (L + 4) D (P + 1) (S + 1) fx ∧ e = .returned (pcV t b k)) ∧ Below w.heap.size w w' := by
  have J := Pc.nott hC h
  have z1 := h.size
  have q1 := h.steps
  have u1 := h.fit.truth rfl
  obtain ⟨v, f, s, x⟩ := k
  simp only at q1 u1
  have hob : ((⟨#[110, 111, 116, 32]⟩ : ByteArray).toList == [110, 111, 116, 32]) = true := by rw [show (⟨#[110, 111, 116, 32]⟩ : ByteArray).toList = [110, 111, 116, 32] from toL_mk _]; decide
  rcases u1 with rfl | rfl
  · exact (turned_not0 ⟨#[110, 111, 116, 32]⟩ t b f s x (by decide) (by omega) (by omega) hob w).mono (fun e w' h => ⟨⟨_, _, _, J, h.1⟩, h.2⟩)
  · exact (turned_not1 ⟨#[110, 111, 116, 32]⟩ t b f s x (by decide) (by omega) (by omega) hob w).mono (fun e w' h => ⟨⟨_, _, _, J, h.1⟩, h.2⟩)
theorem loose_made (hC : ∀ E, C E → E.Ok) (h : Pc C t b k kd L D P S fx) (hL : L ≤ 400) (fb : Nat) (w : World) (hF : FeedAt w fb) :
    Calls Tryz.prog 53 #[.pointer (some ⟨fb, 0, none⟩), pcV t b k] w fun e w' => (∃ t b k, Pc C t b k kd (L + 3) (D + 1) P S fx ∧ e = .returned (pcV t b k)) ∧ FeedAt w' fb ∧ But fb w w' := by
  have J := Pc.loosed hC h
  have z1 := h.size
  refine (loose_any t b k (by omega) fb w hF hF.lt).mono fun e w' h' => ?_
  obtain ⟨he, h1, h2⟩ := h'
  rcases he with he | he
  · exact ⟨⟨_, _, _, h.mono (by omega) (by omega) (Nat.le_refl _) (Nat.le_refl _), he⟩, h1, h2⟩
  · exact ⟨⟨_, _, _, J, he⟩, h1, h2⟩
end
end Go.Proofs.YtjjbmbjmdgoofaaGreatDoor
