/-
  What the operators are worth, of numbers of 64 bits: plain; and that both ways of telling an overflow of a product tell it.
  What the operations of an image do, step by step: plain; and that within an image the stack is never too low.
-/
import Derived.WalkKit
import Derived.WalkSpells
import Derived.Test.YtkbbdfeobcklhaaGreatDoorX48
import Derived.Test.YtkbbdfeobcklhaaGreatDoorX49
set_option linter.unusedVariables false
set_option linter.unusedSimpArgs false
namespace Go.Proofs.YtkbbdfeobcklhaaGreatDoor
open Go.RowKit

/-- A number of 64 bits. -/
abbrev In64 (n : Int) : Prop := -9223372036854775808 ≤ n ∧ n ≤ 9223372036854775807
theorem wrap_in {n : Int} (h : In64 n) : IntKind.i64.wrap n = n := IntWalk.i64_in n h
theorem in_wrap (n : Int) : In64 (IntKind.i64.wrap n) := by rw [IntKind.wrap_i64]; unfold In64; omega
theorem wrap_off (n : Int) : ∃ k : Int, IntKind.i64.wrap n = n + 18446744073709551616 * k := by
  rw [IntKind.wrap_i64]
  exact ⟨-((n + 9223372036854775808) / 18446744073709551616), by omega⟩

/-- A number, or the kind of a fault. -/
def exact64 (v : Int) : Int × Nat := if In64 v then (v, 0) else (0, 1)
def bitN (b : Bool) : Int := if b then 1 else 0
/-- What an operation of two numbers is worth. -/
def joinN (c : Nat) (a b : Int) : Int × Nat :=
  if c = 4 then exact64 (a + b)
  else if c = 5 then exact64 (a - b)
  else if c = 6 then exact64 (a * b)
  else if c = 7 then (if b = 0 then (0, 2) else exact64 (a.tdiv b))
  else if c = 8 then (if b = 0 then (0, 2) else if a = -9223372036854775808 ∧ b = -1 then (0, 1) else (a.tmod b, 0))
  else if c = 9 then (bitN (decide (a < b)), 0)
  else if c = 10 then (bitN (decide (a ≤ b)), 0)
  else if c = 11 then (bitN (decide (a = b)), 0)
  else (bitN (decide (a ≠ b)), 0)
/-- What an operation of one number is worth. -/
def negN (a : Int) : Int × Nat := exact64 (0 - a)

theorem exact_in {v : Int} (h : In64 v) : exact64 v = (v, 0) := if_pos h
theorem exact_out {v : Int} (h : ¬ In64 v) : exact64 v = (0, 1) := if_neg h

theorem tdiv_bound (a b : Int) (hb : b ≠ 0) : (a - b * a.tdiv b).natAbs < b.natAbs := by
  have h1 := Int.tmod_add_mul_tdiv a b
  have h2 : a - b * a.tdiv b = a.tmod b := by omega
  rw [h2, Int.natAbs_tmod]
  exact Nat.mod_lt _ (by omega)
theorem tdiv_in (a b : Int) (ha : In64 a) (hb : In64 b) (h0 : b ≠ 0) (hne : ¬ (a = -9223372036854775808 ∧ b = -1)) : In64 (a.tdiv b) := by
  have hab : (a.tdiv b).natAbs = a.natAbs / b.natAbs := Int.natAbs_tdiv a b
  have hle : (a.tdiv b).natAbs ≤ a.natAbs := by rw [hab]; exact Nat.div_le_self _ _
  unfold In64 at *
  by_cases h1 : a = -9223372036854775808
  · have hb1 : b ≠ -1 := fun h => hne ⟨h1, h⟩
    by_cases hb2 : b = 1
    · subst hb2; rw [Int.tdiv_one]; exact ha
    · have h2 : 2 ≤ b.natAbs := by omega
      have : a.natAbs / b.natAbs ≤ a.natAbs / 2 := Nat.div_le_div_left h2 (by omega)
      omega
  · omega
theorem tdiv_out : ¬ In64 ((-9223372036854775808 : Int).tdiv (-1)) := by decide
theorem join_div (a b : Int) (ha : In64 a) (hb : In64 b) (h0 : b ≠ 0) : joinN 7 a b = if a = -9223372036854775808 ∧ b = -1 then (0, 1) else (a.tdiv b, 0) := by
  simp only [joinN]
  rw [if_neg (by omega), if_neg (by omega), if_neg (by omega), if_pos trivial, if_neg h0]
  split
  · rename_i h; rw [h.1, h.2]; exact exact_out tdiv_out
  · rename_i h; exact exact_in (tdiv_in a b ha hb h0 h)
/-- The program's test of a product. -/
theorem mul_test (a b : Int) (ha : In64 a) (hb : In64 b) (h0 : b ≠ 0) : (IntKind.i64.wrap (a * b)).tdiv b = a ↔ In64 (a * b) := by
  constructor
  · intro h
    obtain ⟨k, hk⟩ := wrap_off (a * b)
    have hi := in_wrap (a * b)
    have h1 := tdiv_bound (IntKind.i64.wrap (a * b)) b h0
    rw [h, Int.mul_comm b a] at h1
    by_cases hk0 : k = 0
    · rw [hk, hk0] at hi; simpa using hi
    · unfold In64 at *
      omega
  · intro h
    rw [wrap_in h]
    exact Int.mul_tdiv_cancel a h0
/-- The document's tests of a product. -/
theorem mul_pp (a b : Int) (ha : In64 a) (hb : In64 b) (h1 : 0 < a) (h2 : 0 < b) : ¬ ((9223372036854775807 : Int).tdiv b < a) ↔ In64 (a * b) := by
  have hpos := Int.mul_pos h1 h2
  rw [Int.tdiv_eq_ediv_of_nonneg (by omega)]
  unfold In64
  constructor
  · intro h
    have := Int.mul_le_of_le_ediv h2 (Int.not_lt.1 h)
    omega
  · rintro ⟨_, h⟩
    exact Int.not_lt.2 ((Int.le_ediv_iff_mul_le h2).2 h)
theorem mul_pn (a b : Int) (ha : In64 a) (hb : In64 b) (h1 : 0 < a) (h2 : b < 0) : ¬ (b < (-9223372036854775808 : Int).tdiv a) ↔ In64 (a * b) := by
  have hneg : a * b < 0 := Int.mul_neg_of_pos_of_neg h1 h2
  have e : (-9223372036854775808 : Int).tdiv a = -((9223372036854775808 : Int) / a) := by
    rw [show (-9223372036854775808 : Int) = -(9223372036854775808 : Int) from rfl, Int.neg_tdiv, Int.tdiv_eq_ediv_of_nonneg (by omega)]
  have h3 : (9223372036854775808 : Int) / a < -b ↔ 9223372036854775808 < -b * a := Int.ediv_lt_iff_lt_mul h1
  have h4 : -b * a = -(a * b) := by rw [Int.neg_mul, Int.mul_comm]
  rw [e]
  rw [h4] at h3
  unfold In64
  constructor
  · intro h
    have : ¬ ((9223372036854775808 : Int) / a < -b) := by omega
    rw [h3] at this
    omega
  · intro h hh
    have : (9223372036854775808 : Int) / a < -b := by omega
    rw [h3] at this
    omega
theorem mul_np (a b : Int) (ha : In64 a) (hb : In64 b) (h1 : a < 0) (h2 : 0 < b) : ¬ (a < (-9223372036854775808 : Int).tdiv b) ↔ In64 (a * b) := by
  rw [Int.mul_comm a b]; exact mul_pn b a hb ha h2 h1
theorem mul_nn (a b : Int) (ha : In64 a) (hb : In64 b) (h1 : a < 0) (h2 : b < 0) (h3 : a ≠ -9223372036854775808) (h4 : b ≠ -9223372036854775808) : ¬ ((9223372036854775807 : Int).tdiv (-b) < -a) ↔ In64 (a * b) := by
  have := mul_pp (-a) (-b) (by unfold In64 at *; omega) (by unfold In64 at *; omega) (by omega) (by omega)
  rw [Int.neg_mul_neg] at this
  exact this
theorem mul_least (a b : Int) (h1 : a < 0) (h2 : b < 0) (h : a = -9223372036854775808 ∨ b = -9223372036854775808) : ¬ In64 (a * b) := by
  unfold In64
  rcases h with rfl | rfl <;> omega
theorem rem_eq (a b : Int) : a - b * a.tdiv b = a.tmod b := by have := Int.tmod_add_mul_tdiv a b; omega
theorem join_in (c : Nat) (a b : Int) (ha : In64 a) (hb : In64 b) : In64 (joinN c a b).1 := by
  have e : ∀ v, In64 (exact64 v).1 := fun v => by unfold exact64; split <;> simp_all [In64]
  have e0 : In64 (0 : Int) := by decide
  have e1 : ∀ x, In64 (bitN x) := fun x => by cases x <;> decide
  have em : In64 (a.tmod b) := by
    have h2 : (a.tmod b).natAbs = a.natAbs % b.natAbs := Int.natAbs_tmod a b
    have h3 := Nat.mod_le a.natAbs b.natAbs
    have h4 := Int.tmod_nonneg (a := a) b
    unfold In64 at *
    by_cases h : 0 ≤ a
    · have := h4 h; omega
    · have h5 := Int.tmod_nonneg (a := -a) b (by omega)
      rw [Int.neg_tmod] at h5
      omega
  unfold joinN
  repeat' split
  all_goals first | exact e _ | exact e0 | exact e1 _ | exact em
theorem neg_in (a : Int) : In64 (negN a).1 := by unfold negN exact64; split <;> simp_all [In64]
end Go.Proofs.YtkbbdfeobcklhaaGreatDoor

set_option linter.unusedVariables false
set_option linter.unusedSimpArgs false
namespace Go.Proofs.YtkbbdfeobcklhaaGreatDoor
open Go.RowKit

structure Itm where
  size : Int
  speed : Int
  need : Int
structure Bn where
  id : Int
  zone : Int
  cap : Int
  used : Int
  has : Int
def attrN (k : Int) (x : Itm) (b : Bn) : Int :=
  if k = 0 then x.size else if k = 1 then x.speed else if k = 2 then x.need else if k = 3 then b.zone else if k = 4 then b.cap else if k = 5 then b.used else if k = 6 then b.has else 0
def Itm.Ok (x : Itm) : Prop := (1 ≤ x.size ∧ x.size ≤ 1000) ∧ (0 ≤ x.speed ∧ x.speed ≤ 1000) ∧ (0 ≤ x.need ∧ x.need ≤ 2)
def Bn.Ok (b : Bn) : Prop := (0 ≤ b.id ∧ b.id ≤ 1000) ∧ (0 ≤ b.zone ∧ b.zone ≤ 9) ∧ (1 ≤ b.cap ∧ b.cap ≤ 1000) ∧ (0 ≤ b.used ∧ b.used ≤ b.cap) ∧ (0 ≤ b.has ∧ b.has ≤ 2)

def fst (st : List Int) : Int := st.headD 0
def snd (st : List Int) : Int := (st.drop 1).headD 0
/-- Where an operation jumps. -/
def Ins.to (o : Ins) : Nat := (o.next + o.arg).toNat
/-- A number or a fault, laid. -/
def layM (r : Int × Nat) (p : Nat) (st : List Int) : (Nat × Int) ⊕ (Nat × List Int) := if r.2 = 0 then .inr (p, r.1 :: st) else .inl (2, r.2)
/-- One step: it ends so, or goes on there with that stack (the uppermost number first). -/
def stepM (x : Itm) (b : Bn) (o : Ins) (st : List Int) : (Nat × Int) ⊕ (Nat × List Int) :=
  if o.op = 16 then .inl (1, fst st)
  else if o.op = 17 then .inl (0, 0)
  else if o.op = 0 then .inr (o.next, o.arg :: st)
  else if o.op = 1 then .inr (o.next, attrN o.arg x b :: st)
  else if o.op = 2 then layM (negN (fst st)) o.next (st.drop 1)
  else if o.op = 3 then .inr (o.next, bitN (decide (fst st = 0)) :: st.drop 1)
  else if o.op = 13 then .inr (o.to, st)
  else if o.op = 14 then .inr (if fst st = 0 then o.to else o.next, st.drop 1)
  else if o.op = 15 then .inr (if fst st = 0 then o.next else o.to, st.drop 1)
  else layM (joinN o.op (snd st) (fst st)) o.next (st.drop 2)
/-- The run: the end, the value, the steps. -/
def runM (s : ByteArray) (x : Itm) (b : Bn) : Nat → Nat → List Int → Nat → Nat × Int × Nat
  | 0, _, _, n => (0, 0, n)
  | f + 1, p, st, n => match stepM x b (mkIns s p) st with
    | .inl (k, v) => (k, v, n + 1)
    | .inr (p', st') => runM s x b f p' st' (n + 1)
theorem runM_end {s : ByteArray} {x : Itm} {b : Bn} {f p : Nat} {st : List Int} {n k : Nat} {v : Int} (h : stepM x b (mkIns s p) st = .inl (k, v)) : runM s x b (f + 1) p st n = (k, v, n + 1) := by
  simp [runM, h]
theorem runM_go {s : ByteArray} {x : Itm} {b : Bn} {f p : Nat} {st : List Int} {n p' : Nat} {st' : List Int} (h : stepM x b (mkIns s p) st = .inr (p', st')) : runM s x b (f + 1) p st n = runM s x b f p' st' (n + 1) := by
  simp [runM, h]

/-- At a step of an image's run: an operation begins there, the stack is as high as it should be, all are numbers of 64 bits. -/
structure AtStep (s : ByteArray) (l : List Ins) (most : Nat) (G : Nat → Int) (p : Nat) (st : List Int) : Prop where
  chain : Chain s 3 l s.size
  law : Lawful l most G
  here : mkIns s p ∈ l
  high : G p = st.length
  nums : ∀ v ∈ st, In64 v
theorem AtStep.ok {s : ByteArray} {l : List Ins} {most : Nat} {G : Nat → Int} {p : Nat} {st : List Int} (h : AtStep s l most G p st) : OpOkI s p := (h.chain.mem _ h.here).2.2.1
theorem AtStep.tall {s : ByteArray} {l : List Ins} {most : Nat} {G : Nat → Int} {p : Nat} {st : List Int} (h : AtStep s l most G p st) : takesN (bt s p) ≤ st.length := by
  have := (h.law.2 _ h.here).1
  simp only [mkIns] at this
  rw [h.high] at this
  omega
theorem AtStep.most_le {s : ByteArray} {l : List Ins} {most : Nat} {G : Nat → Int} {p : Nat} {st : List Int} (h : AtStep s l most G p st) : st.length ≤ most := by
  have := (h.law.2 _ h.here).2.1
  simp only [mkIns] at this
  rw [h.high] at this
  omega
theorem AtStep.start {s : ByteArray} {l : List Ins} {most : Nat} {G : Nat → Int} (hc : Chain s 3 l s.size) (hl : Lawful l most G) (h4 : 3 < s.size) : AtStep s l most G 3 [] := by
  refine ⟨hc, hl, ?_, by rw [hl.1]; rfl, by simp⟩
  obtain ⟨o, ho, h1, h2⟩ := hc.cover 3 (Nat.le_refl _) h4
  have hm := hc.mem o ho
  have : o.pos = 3 := by omega
  rw [← this, ← hm.2.2.2]; exact ho
/-- One step of an image's run leads to another. -/
theorem AtStep.next {s : ByteArray} {l : List Ins} {most : Nat} {G : Nat → Int} {p : Nat} {st st' : List Int} {q : Nat} (h : AtStep s l most G p st) (hf : Flows (mkIns s p) q) (hn : (st'.length : Int) = st.length - takesN (bt s p) + laysN (bt s p)) (hi : ∀ v ∈ st', In64 v) : AtStep s l most G q st' ∧ p < q := by
  obtain ⟨⟨o, ho, rfl⟩, h2⟩ := (h.law.2 _ h.here).2.2.1 q hf
  have hm := h.chain.mem o ho
  refine ⟨⟨h.chain, h.law, by rw [← hm.2.2.2]; exact ho, ?_, hi⟩, hf.lt⟩
  rw [h2, hn]
  show G p - takesN (bt s p) + laysN (bt s p) = _
  rw [h.high]
theorem jump_to (s : ByteArray) (p : Nat) (h : (mkIns s p).op = 13 ∨ (mkIns s p).op = 14 ∨ (mkIns s p).op = 15) : ((mkIns s p).to : Int) = (mkIns s p).next + (mkIns s p).arg := by
  have := jump_arg s p h
  unfold Ins.to
  omega
theorem attr_in (k : Int) (x : Itm) (b : Bn) (hx : x.Ok) (hb : b.Ok) : In64 (attrN k x b) := by
  unfold Itm.Ok at hx
  unfold Bn.Ok at hb
  unfold attrN In64
  repeat' split
  all_goals omega
/-- What a step that goes on leads to. -/
theorem AtStep.go {s : ByteArray} {l : List Ins} {most : Nat} {G : Nat → Int} {p : Nat} {st st' : List Int} {q : Nat} {x : Itm} {b : Bn} (h : AtStep s l most G p st) (hx : x.Ok) (hb : b.Ok) (hs : stepM x b (mkIns s p) st = .inr (q, st')) : AtStep s l most G q st' ∧ p < q := by
  have ht := h.tall
  have hok := h.ok
  have hop : (mkIns s p).op = bt s p := rfl
  have hd : ∀ k, ∀ v ∈ st.drop k, In64 v := fun k v hv => h.nums v (List.mem_of_mem_drop hv)
  have hfst : In64 (fst st) := by
    unfold fst
    cases st with
    | nil => decide
    | cons a r => exact h.nums a (by simp)
  have hsnd : In64 (snd st) := by
    unfold snd
    cases hdd : st.drop 1 with
    | nil => decide
    | cons a r => exact hd 1 a (by rw [hdd]; simp)
  have hnx : (bt s p ≠ 13 ∧ bt s p ≠ 16 ∧ bt s p ≠ 17) → Flows (mkIns s p) (mkIns s p).next := fun hh => .inl ⟨hh.1, hh.2.1, hh.2.2, rfl⟩
  have hto : (bt s p = 13 ∨ bt s p = 14 ∨ bt s p = 15) → Flows (mkIns s p) (mkIns s p).to := fun hh => .inr ⟨hh, jump_to s p hh⟩
  have hc17 : bt s p ≤ 17 := hok.2.1
  unfold stepM at hs
  simp only [hop] at hs
  split at hs
  · simp at hs
  split at hs
  · simp at hs
  split at hs
  · rename_i h0
    simp at hs
    obtain ⟨rfl, rfl⟩ := hs
    refine h.next (hnx (by omega)) (by simp [takesN, laysN, h0]) ?_
    intro v hv
    rcases List.mem_cons.1 hv with rfl | hv
    · exact in_wrap _
    · exact h.nums v hv
  split at hs
  · rename_i h0
    simp at hs
    obtain ⟨rfl, rfl⟩ := hs
    refine h.next (hnx (by omega)) (by simp [takesN, laysN, h0]) ?_
    intro v hv
    rcases List.mem_cons.1 hv with rfl | hv
    · exact attr_in _ x b hx hb
    · exact h.nums v hv
  split at hs
  · rename_i h0
    unfold layM at hs
    split at hs
    · simp at hs
      obtain ⟨rfl, rfl⟩ := hs
      rw [h0] at ht
      simp [takesN] at ht
      refine h.next (hnx (by omega)) (by simp [takesN, laysN, h0]; omega) ?_
      intro v hv
      rcases List.mem_cons.1 hv with rfl | hv
      · exact neg_in _
      · exact hd 1 v (by simpa using hv)
    · simp at hs
  split at hs
  · rename_i h0
    simp at hs
    obtain ⟨rfl, rfl⟩ := hs
    rw [h0] at ht
    simp [takesN] at ht
    refine h.next (hnx (by omega)) (by simp [takesN, laysN, h0]; omega) ?_
    intro v hv
    rcases List.mem_cons.1 hv with rfl | hv
    · unfold bitN; split <;> decide
    · exact hd 1 v (by simpa using hv)
  split at hs
  · rename_i h0
    simp at hs
    obtain ⟨rfl, rfl⟩ := hs
    exact h.next (hto (by omega)) (by simp [takesN, laysN, h0]) h.nums
  split at hs
  · rename_i h0
    simp at hs
    obtain ⟨rfl, rfl⟩ := hs
    rw [h0] at ht
    simp [takesN] at ht
    refine h.next ?_ (by simp [takesN, laysN, h0]; omega) (fun v hv => hd 1 v (by simpa using hv))
    split
    · exact hto (by omega)
    · exact hnx (by omega)
  split at hs
  · rename_i h0
    simp at hs
    obtain ⟨rfl, rfl⟩ := hs
    rw [h0] at ht
    simp [takesN] at ht
    refine h.next ?_ (by simp [takesN, laysN, h0]; omega) (fun v hv => hd 1 v (by simpa using hv))
    split
    · exact hnx (by omega)
    · exact hto (by omega)
  · unfold layM at hs
    split at hs
    · simp at hs
      obtain ⟨rfl, rfl⟩ := hs
      have h2 : takesN (bt s p) = 2 := by unfold takesN; rw [if_neg (by omega), if_neg (by omega)]
      have h3 : laysN (bt s p) = 1 := by unfold laysN; rw [if_neg (by omega)]
      rw [h2] at ht
      refine h.next (hnx (by omega)) (by rw [h2, h3]; simp; omega) ?_
      intro v hv
      rcases List.mem_cons.1 hv with rfl | hv
      · exact join_in _ _ _ hsnd hfst
      · exact hd 2 v (by simpa using hv)
    · simp at hs
end Go.Proofs.YtkbbdfeobcklhaaGreatDoor
