/-
  Images, in the document's words: the operations that stand in some bytes, their heights, and what makes them an image.
-/
import Derived.WalkKit
import Derived.WalkSpells
set_option linter.unusedVariables false
set_option linter.unusedSimpArgs false
namespace Go.Proofs.YtjjbmbjmdgoofaaGreatDoor
open Go.RowKit
def bt (s : ByteArray) (i : Nat) : Nat := if h : i < s.size then (s[i]).toNat else 0
theorem bt_get (s : ByteArray) (i : Nat) (h : i < s.size) : bt s i = (s[i]).toNat := by simp [bt, h]
theorem bt_lt (s : ByteArray) (i : Nat) : bt s i < 256 := by
  unfold bt
  split
  · exact UInt8.toNat_lt _
  · omega
def lowU (s : ByteArray) : Nat → Nat → Nat
  | _, 0 => 0
  | p, n + 1 => bt s p + 256 * lowU s (p + 1) n
theorem lowU_two (s : ByteArray) (p : Nat) : lowU s p 2 < 65536 := by
  have h1 := bt_lt s p
  have h2 := bt_lt s (p + 1)
  simp only [lowU]; omega
theorem lowU_one (s : ByteArray) (p : Nat) : lowU s p 1 = bt s p := by simp [lowU]
def behindN (c : Nat) : Nat := if c = 0 then 8 else if c = 1 then 1 else if c = 13 ∨ c = 14 ∨ c = 15 then 2 else 0
def takesN (c : Nat) : Nat := if c = 0 ∨ c = 1 ∨ c = 13 ∨ c = 17 then 0 else if c = 2 ∨ c = 3 ∨ c = 14 ∨ c = 15 ∨ c = 16 then 1 else 2
def laysN (c : Nat) : Nat := if 13 ≤ c then 0 else 1
structure Ins where
  pos : Nat
  op : Nat
  arg : Int
  next : Nat
def mkIns (s : ByteArray) (p : Nat) : Ins := ⟨p, bt s p, IntKind.i64.wrap (lowU s (p + 1) (behindN (bt s p)) : Nat), p + 1 + behindN (bt s p)⟩
def OpOkI (s : ByteArray) (p : Nat) : Prop := p < s.size ∧ bt s p ≤ 17 ∧ p + 1 + behindN (bt s p) ≤ s.size ∧ (bt s p = 1 → bt s (p + 1) ≤ 6)
def Chain (s : ByteArray) : Nat → List Ins → Nat → Prop
  | p, [], q => p = q
  | p, o :: r, q => OpOkI s p ∧ o = mkIns s p ∧ Chain s o.next r q
def Flows (o : Ins) (q : Nat) : Prop := (o.op ≠ 13 ∧ o.op ≠ 16 ∧ o.op ≠ 17 ∧ q = o.next) ∨ ((o.op = 13 ∨ o.op = 14 ∨ o.op = 15) ∧ (q : Int) = o.next + o.arg)
def Lawful (l : List Ins) (most : Nat) (H : Nat → Int) : Prop :=
  H 3 = 0 ∧ ∀ o ∈ l, (takesN o.op : Int) ≤ H o.pos ∧ H o.pos ≤ most ∧ (∀ q, Flows o q → (∃ o' ∈ l, o'.pos = q) ∧ H q = H o.pos - takesN o.op + laysN o.op) ∧ (o.pos = 3 ∨ ∃ o' ∈ l, Flows o' o.pos)
def HeadOk (s : ByteArray) : Prop := 4 ≤ s.size ∧ s.size ≤ 4000 ∧ bt s 0 = 83 ∧ bt s 1 = 76
def IsImg (s : ByteArray) : Prop := HeadOk s ∧ ∃ l, Chain s 3 l s.size ∧ ∃ H, Lawful l (bt s 2) H
theorem Chain.le {s : ByteArray} : ∀ {l : List Ins} {p q : Nat}, Chain s p l q → p ≤ q
  | [], _, _, h => Nat.le_of_eq h
  | o :: r, p, q, h => by
    obtain ⟨_, rfl, h3⟩ := h
    have := Chain.le h3
    simp only [mkIns] at this
    omega
theorem Chain.snoc {s : ByteArray} : ∀ {l : List Ins} {p q : Nat}, Chain s p l q → OpOkI s q → Chain s p (l ++ [mkIns s q]) (mkIns s q).next
  | [], _, _, h, ho => by subst h; exact ⟨ho, rfl, rfl⟩
  | o :: r, p, q, h, ho => ⟨h.1, h.2.1, h.2.2.snoc ho⟩
theorem Chain.pre {s : ByteArray} : ∀ {l0 l : List Ins} {p q : Nat}, Chain s p l0 q → Chain s p l s.size → ∃ r, l = l0 ++ r ∧ Chain s q r s.size
  | [], l, p, q, h0, h => by subst h0; exact ⟨l, rfl, h⟩
  | o :: r0, [], p, q, h0, h => by
    have h1 : p < s.size := h0.1.1
    have h2 : p = s.size := h
    omega
  | o :: r0, o' :: r', p, q, h0, h => by
    obtain ⟨_, rfl, h0'⟩ := h0
    obtain ⟨_, rfl, h'⟩ := h
    obtain ⟨r, rfl, hr⟩ := Chain.pre h0' h'
    exact ⟨r, rfl, hr⟩
theorem Chain.mem {s : ByteArray} : ∀ {l : List Ins} {p q : Nat}, Chain s p l q → ∀ o ∈ l, p ≤ o.pos ∧ o.next ≤ q ∧ OpOkI s o.pos ∧ o = mkIns s o.pos
  | [], _, _, _, o, ho => by simp at ho
  | a :: r, p, q, h, o, ho => by
    obtain ⟨h1, rfl, h3⟩ := h
    rcases List.mem_cons.1 ho with rfl | ho
    · exact ⟨Nat.le_refl _, h3.le, h1, rfl⟩
    · obtain ⟨h4, h5⟩ := Chain.mem h3 o ho
      exact ⟨by simp only [mkIns] at h4; omega, h5⟩
theorem next_pos (s : ByteArray) (p : Nat) : p < (mkIns s p).next := by simp only [mkIns]; omega
theorem Chain.cover {s : ByteArray} : ∀ {l : List Ins} {p q : Nat}, Chain s p l q → ∀ i, p ≤ i → i < q → ∃ o ∈ l, o.pos ≤ i ∧ i < o.next
  | [], p, q, h, i, h1, h2 => by have : p = q := h; omega
  | a :: r, p, q, h, i, h1, h2 => by
    obtain ⟨_, rfl, h3⟩ := h
    by_cases hi : i < (mkIns s p).next
    · exact ⟨_, List.mem_cons_self, h1, hi⟩
    · obtain ⟨o, ho, h4⟩ := Chain.cover h3 i (by omega) h2
      exact ⟨o, List.mem_cons_of_mem _ ho, h4⟩
theorem Chain.apart {s : ByteArray} : ∀ {l : List Ins} {p q : Nat}, Chain s p l q → ∀ a ∈ l, ∀ b ∈ l, a.pos < b.pos → a.next ≤ b.pos
  | [], _, _, _, a, ha, _, _, _ => by simp at ha
  | c :: r, p, q, h, a, ha, b, hb, hlt => by
    obtain ⟨h1, rfl, h3⟩ := h
    rcases List.mem_cons.1 ha with rfl | ha
    · rcases List.mem_cons.1 hb with rfl | hb
      · omega
      · exact (Chain.mem h3 b hb).1
    · rcases List.mem_cons.1 hb with rfl | hb
      · have := (Chain.mem h3 a ha).1
        have h5 := next_pos s p
        simp only [mkIns] at this hlt h5
        omega
      · exact Chain.apart h3 a ha b hb hlt
theorem Chain.append {s : ByteArray} : ∀ {l r : List Ins} {p q e : Nat}, Chain s p l q → Chain s q r e → Chain s p (l ++ r) e
  | [], _, _, _, _, h, h2 => by have : _ = _ := h; subst this; exact h2
  | a :: l, r, p, q, e, h, h2 => ⟨h.1, h.2.1, h.2.2.append h2⟩
theorem wrap_small (n : Nat) (h : n < 65536) : IntKind.i64.wrap (n : Nat) = n := IntWalk.i64_in _ ⟨by omega, by omega⟩
theorem jump_arg (s : ByteArray) (p : Nat) (h : (mkIns s p).op = 13 ∨ (mkIns s p).op = 14 ∨ (mkIns s p).op = 15) : (mkIns s p).arg = lowU s (p + 1) 2 := by
  have hb : behindN (bt s p) = 2 := by
    simp only [mkIns] at h
    unfold behindN; rcases h with h | h | h <;> simp [h]
  simp only [mkIns, hb]
  exact wrap_small _ (lowU_two s _)
theorem Flows.lt {s : ByteArray} {p q : Nat} (h : Flows (mkIns s p) q) : p < q := by
  rcases h with ⟨_, _, _, rfl⟩ | ⟨hj, hq⟩
  · exact next_pos s p
  · rw [jump_arg s p hj] at hq
    have := next_pos s p
    omega
theorem Flows.le {s : ByteArray} {p q : Nat} (h : Flows (mkIns s p) q) : (mkIns s p).next ≤ q := by
  rcases h with ⟨_, _, _, rfl⟩ | ⟨hj, hq⟩
  · exact Nat.le_refl _
  · rw [jump_arg s p hj] at hq
    omega
structure Found (s : ByteArray) (most : Nat) (H : Nat → Int) (p : Nat) (l0 : List Ins) : Prop where
  chain : Chain s 3 l0 p
  first : H 3 = 0
  src : ∀ q, H q ≠ -1 → q = 3 ∨ ∃ o ∈ l0, Flows o q ∧ H q = H o.pos - takesN o.op + laysN o.op
  done : ∀ o ∈ l0, (takesN o.op : Int) ≤ H o.pos ∧ H o.pos ≤ most ∧ ∀ q, Flows o q → q < s.size ∧ H q = H o.pos - takesN o.op + laysN o.op
  inside : ∀ o ∈ l0, ∀ q, o.pos < q → q < o.next → H q = -1
  low : ∀ q, -1 ≤ H q
  high : ∀ q, H q ≤ most
theorem Found.lawful {s : ByteArray} {most : Nat} {H : Nat → Int} {l0 : List Ins} (h : Found s most H s.size l0) : Lawful l0 most H := by
  refine ⟨h.first, fun o ho => ?_⟩
  obtain ⟨h1, h2, h3⟩ := h.done o ho
  refine ⟨h1, h2, fun q hq => ?_, ?_⟩
  · obtain ⟨h4, h5⟩ := h3 q hq
    refine ⟨?_, h5⟩
    have hm := h.chain.mem o ho
    have hlt : o.pos < q := by rw [hm.2.2.2] at hq; exact hq.lt
    obtain ⟨o', ho', h6, h7⟩ := h.chain.cover q (by omega) h4
    by_cases he : o'.pos = q
    · exact ⟨o', ho', he⟩
    · have := h.inside o' ho' q (by omega) h7
      have hl : (0 : Int) ≤ laysN o.op := by omega
      omega
  · rcases h.src o.pos (by omega) with h6 | ⟨o', ho', hf, _⟩
    · exact .inl h6
    · exact .inr ⟨o', ho', hf⟩
theorem Found.agree {s : ByteArray} {most : Nat} {H G : Nat → Int} {p : Nat} {l0 l : List Ins} (h : Found s most H p l0) (hp : p < s.size) (hc : Chain s 3 l s.size) (hl : Lawful l most G) :
    ∀ n q, q < n → H q ≠ -1 → H q = G q ∧ ∃ o ∈ l, o.pos = q := by
  obtain ⟨r, rfl, hr⟩ := h.chain.pre hc
  intro n
  induction n with
  | zero => intro q hq; omega
  | succ n ih =>
    intro q hq hne
    rcases h.src q hne with rfl | ⟨o, ho, hf, he⟩
    · refine ⟨by rw [h.first, hl.1], ?_⟩
      have h3 := h.chain.le
      obtain ⟨o, ho, h4, h5⟩ := hc.cover 3 (Nat.le_refl _) (by omega)
      exact ⟨o, ho, by have := (hc.mem o ho).1; omega⟩
    · have ho' : o ∈ l0 ++ r := List.mem_append_left _ ho
      have hm := h.chain.mem o ho
      have hlt : o.pos < q := by rw [hm.2.2.2] at hf; exact hf.lt
      obtain ⟨h1, _, _⟩ := h.done o ho
      obtain ⟨h2, _⟩ := ih o.pos (by omega) (by omega)
      obtain ⟨_, _, h3, _⟩ := hl.2 o ho'
      obtain ⟨h4, h5⟩ := h3 q hf
      exact ⟨by omega, h4⟩
end Go.Proofs.YtjjbmbjmdgoofaaGreatDoor
namespace Go.Proofs.YtjjbmbjmdgoofaaGreatDoor
open Go.RowKit
abbrev In64 (n : Int) : Prop := -9223372036854775808 ≤ n ∧ n ≤ 9223372036854775807
theorem wrap_in {n : Int} (h : In64 n) : IntKind.i64.wrap n = n := IntWalk.i64_in n h
theorem in_wrap (n : Int) : In64 (IntKind.i64.wrap n) := by rw [IntKind.wrap_i64]; unfold In64; omega
theorem wrap_off (n : Int) : ∃ k : Int, IntKind.i64.wrap n = n + 18446744073709551616 * k := by
  rw [IntKind.wrap_i64]
  exact ⟨-((n + 9223372036854775808) / 18446744073709551616), by omega⟩
def exact64 (v : Int) : Int × Nat := if In64 v then (v, 0) else (0, 1)
def bitN (b : Bool) : Int := if b then 1 else 0
def joinN (c : Nat) (a b : Int) : Int × Nat :=
  if c = 4 then exact64 (a + b)
  else if c = 5 then exact64 (a - b)
  else if c = 6 then exact64 (a * b)
  else if c = 7 then (if b = 0 then (0, 2) else exact64 (a.tdiv b))
  else if c = 8 then (if b = 0 then (0, 2) else if a = -9223372036854775808 ∧ b = -1 then (0, 1) else (a.tmod b, 0))
  else if c = 9 then (bitN (decide (a < b)), 0)
  else if c = 10 then (bitN (decide (a ≤ b)), 0)
  else if c = 11 then (bitN (decide (a = b)), 0)
  else (bitN (decide (a ≠ b)), 0)
def negN (a : Int) : Int × Nat := exact64 (0 - a)
theorem exact_in {v : Int} (h : In64 v) : exact64 v = (v, 0) := if_pos h
theorem exact_out {v : Int} (h : ¬ In64 v) : exact64 v = (0, 1) := if_neg h
theorem tdiv_bound (a b : Int) (hb : b ≠ 0) : (a - b * a.tdiv b).natAbs < b.natAbs := by
  have h1 := Int.tmod_add_mul_tdiv a b
  have h2 : a - b * a.tdiv b = a.tmod b := by omega
  rw [h2, Int.natAbs_tmod]
  exact Nat.mod_lt _ (by omega)
theorem tdiv_in (a b : Int) (ha : In64 a) (hb : In64 b) (h0 : b ≠ 0) (hne : ¬ (a = -9223372036854775808 ∧ b = -1)) : In64 (a.tdiv b) := by
  have hab : (a.tdiv b).natAbs = a.natAbs / b.natAbs := Int.natAbs_tdiv a b
  have hle : (a.tdiv b).natAbs ≤ a.natAbs := by rw [hab]; exact Nat.div_le_self _ _
  unfold In64 at *
  by_cases h1 : a = -9223372036854775808
  · have hb1 : b ≠ -1 := fun h => hne ⟨h1, h⟩
    by_cases hb2 : b = 1
    · subst hb2; rw [Int.tdiv_one]; exact ha
    · have h2 : 2 ≤ b.natAbs := by omega
      have : a.natAbs / b.natAbs ≤ a.natAbs / 2 := Nat.div_le_div_left h2 (by omega)
      omega
  · omega
theorem tdiv_out : ¬ In64 ((-9223372036854775808 : Int).tdiv (-1)) := by decide
theorem join_div (a b : Int) (ha : In64 a) (hb : In64 b) (h0 : b ≠ 0) : joinN 7 a b = if a = -9223372036854775808 ∧ b = -1 then (0, 1) else (a.tdiv b, 0) := by
  simp only [joinN]
  rw [if_neg (by omega), if_neg (by omega), if_neg (by omega), if_pos trivial, if_neg h0]
  split
  · rename_i h; rw [h.1, h.2]; exact exact_out tdiv_out
  · rename_i h; exact exact_in (tdiv_in a b ha hb h0 h)
theorem mul_test (a b : Int) (ha : In64 a) (hb : In64 b) (h0 : b ≠ 0) : (IntKind.i64.wrap (a * b)).tdiv b = a ↔ In64 (a * b) := by
  constructor
  · intro h
    obtain ⟨k, hk⟩ := wrap_off (a * b)
    have hi := in_wrap (a * b)
    have h1 := tdiv_bound (IntKind.i64.wrap (a * b)) b h0
    rw [h, Int.mul_comm b a] at h1
    by_cases hk0 : k = 0
    · rw [hk, hk0] at hi; simpa using hi
    · unfold In64 at *
      omega
  · intro h
    rw [wrap_in h]
    exact Int.mul_tdiv_cancel a h0
theorem join_in (c : Nat) (a b : Int) (ha : In64 a) (hb : In64 b) : In64 (joinN c a b).1 := by
  have e : ∀ v, In64 (exact64 v).1 := fun v => by unfold exact64; split <;> simp_all [In64]
  have e0 : In64 (0 : Int) := by decide
  have e1 : ∀ x, In64 (bitN x) := fun x => by cases x <;> decide
  have em : In64 (a.tmod b) := by
    have h2 : (a.tmod b).natAbs = a.natAbs % b.natAbs := Int.natAbs_tmod a b
    have h3 := Nat.mod_le a.natAbs b.natAbs
    have h4 := Int.tmod_nonneg (a := a) b
    unfold In64 at *
    by_cases h : 0 ≤ a
    · have := h4 h; omega
    · have h5 := Int.tmod_nonneg (a := -a) b (by omega)
      rw [Int.neg_tmod] at h5
      omega
  unfold joinN
  repeat' split
  all_goals first | exact e _ | exact e0 | exact e1 _ | exact em
theorem neg_in (a : Int) : In64 (negN a).1 := by unfold negN exact64; split <;> simp_all [In64]
end Go.Proofs.YtjjbmbjmdgoofaaGreatDoor
namespace Go.Proofs.YtjjbmbjmdgoofaaGreatDoor
open Go.RowKit
def upd (hs : Nat → Int) (k : Nat) (v : Int) : Nat → Int := fun j => if j = k then v else hs j
end Go.Proofs.YtjjbmbjmdgoofaaGreatDoor
namespace Go.Proofs.YtjjbmbjmdgoofaaGreatDoor
open Go.RowKit
structure Itm where
  size : Int
  speed : Int
  need : Int
structure Bn where
  id : Int
  zone : Int
  cap : Int
  used : Int
  has : Int
def attrN (k : Int) (x : Itm) (b : Bn) : Int :=
  if k = 0 then x.size else if k = 1 then x.speed else if k = 2 then x.need else if k = 3 then b.zone else if k = 4 then b.cap else if k = 5 then b.used else if k = 6 then b.has else 0
def Itm.Ok (x : Itm) : Prop := (1 ≤ x.size ∧ x.size ≤ 1000) ∧ (0 ≤ x.speed ∧ x.speed ≤ 1000) ∧ (0 ≤ x.need ∧ x.need ≤ 2)
def Bn.Ok (b : Bn) : Prop := (0 ≤ b.id ∧ b.id ≤ 1000) ∧ (0 ≤ b.zone ∧ b.zone ≤ 9) ∧ (1 ≤ b.cap ∧ b.cap ≤ 1000) ∧ (0 ≤ b.used ∧ b.used ≤ b.cap) ∧ (0 ≤ b.has ∧ b.has ≤ 2)
def fst (st : List Int) : Int := st.headD 0
def snd (st : List Int) : Int := (st.drop 1).headD 0
def Ins.to (o : Ins) : Nat := (o.next + o.arg).toNat
def layM (r : Int × Nat) (p : Nat) (st : List Int) : (Nat × Int) ⊕ (Nat × List Int) := if r.2 = 0 then .inr (p, r.1 :: st) else .inl (2, r.2)
def stepM (x : Itm) (b : Bn) (o : Ins) (st : List Int) : (Nat × Int) ⊕ (Nat × List Int) :=
  if o.op = 16 then .inl (1, fst st)
  else if o.op = 17 then .inl (0, 0)
  else if o.op = 0 then .inr (o.next, o.arg :: st)
  else if o.op = 1 then .inr (o.next, attrN o.arg x b :: st)
  else if o.op = 2 then layM (negN (fst st)) o.next (st.drop 1)
  else if o.op = 3 then .inr (o.next, bitN (decide (fst st = 0)) :: st.drop 1)
  else if o.op = 13 then .inr (o.to, st)
  else if o.op = 14 then .inr (if fst st = 0 then o.to else o.next, st.drop 1)
  else if o.op = 15 then .inr (if fst st = 0 then o.next else o.to, st.drop 1)
  else layM (joinN o.op (snd st) (fst st)) o.next (st.drop 2)
def runM (s : ByteArray) (x : Itm) (b : Bn) : Nat → Nat → List Int → Nat → Nat × Int × Nat
  | 0, _, _, n => (0, 0, n)
  | f + 1, p, st, n => match stepM x b (mkIns s p) st with
    | .inl (k, v) => (k, v, n + 1)
    | .inr (p', st') => runM s x b f p' st' (n + 1)
theorem runM_end {s : ByteArray} {x : Itm} {b : Bn} {f p : Nat} {st : List Int} {n k : Nat} {v : Int} (h : stepM x b (mkIns s p) st = .inl (k, v)) : runM s x b (f + 1) p st n = (k, v, n + 1) := by
  simp [runM, h]
theorem runM_go {s : ByteArray} {x : Itm} {b : Bn} {f p : Nat} {st : List Int} {n p' : Nat} {st' : List Int} (h : stepM x b (mkIns s p) st = .inr (p', st')) : runM s x b (f + 1) p st n = runM s x b f p' st' (n + 1) := by
  simp [runM, h]
structure AtStep (s : ByteArray) (l : List Ins) (most : Nat) (G : Nat → Int) (p : Nat) (st : List Int) : Prop where
  chain : Chain s 3 l s.size
  law : Lawful l most G
  here : mkIns s p ∈ l
  high : G p = st.length
  nums : ∀ v ∈ st, In64 v
theorem AtStep.ok {s : ByteArray} {l : List Ins} {most : Nat} {G : Nat → Int} {p : Nat} {st : List Int} (h : AtStep s l most G p st) : OpOkI s p := (h.chain.mem _ h.here).2.2.1
theorem AtStep.tall {s : ByteArray} {l : List Ins} {most : Nat} {G : Nat → Int} {p : Nat} {st : List Int} (h : AtStep s l most G p st) : takesN (bt s p) ≤ st.length := by
  have := (h.law.2 _ h.here).1
  simp only [mkIns] at this
  rw [h.high] at this
  omega
theorem AtStep.most_le {s : ByteArray} {l : List Ins} {most : Nat} {G : Nat → Int} {p : Nat} {st : List Int} (h : AtStep s l most G p st) : st.length ≤ most := by
  have := (h.law.2 _ h.here).2.1
  simp only [mkIns] at this
  rw [h.high] at this
  omega
theorem AtStep.start {s : ByteArray} {l : List Ins} {most : Nat} {G : Nat → Int} (hc : Chain s 3 l s.size) (hl : Lawful l most G) (h4 : 3 < s.size) : AtStep s l most G 3 [] := by
  refine ⟨hc, hl, ?_, by rw [hl.1]; rfl, by simp⟩
  obtain ⟨o, ho, h1, h2⟩ := hc.cover 3 (Nat.le_refl _) h4
  have hm := hc.mem o ho
  have : o.pos = 3 := by omega
  rw [← this, ← hm.2.2.2]; exact ho
theorem AtStep.next {s : ByteArray} {l : List Ins} {most : Nat} {G : Nat → Int} {p : Nat} {st st' : List Int} {q : Nat} (h : AtStep s l most G p st) (hf : Flows (mkIns s p) q) (hn : (st'.length : Int) = st.length - takesN (bt s p) + laysN (bt s p)) (hi : ∀ v ∈ st', In64 v) : AtStep s l most G q st' ∧ p < q := by
  obtain ⟨⟨o, ho, rfl⟩, h2⟩ := (h.law.2 _ h.here).2.2.1 q hf
  have hm := h.chain.mem o ho
  refine ⟨⟨h.chain, h.law, by rw [← hm.2.2.2]; exact ho, ?_, hi⟩, hf.lt⟩
  rw [h2, hn]
  show G p - takesN (bt s p) + laysN (bt s p) = _
  rw [h.high]
theorem jump_to (s : ByteArray) (p : Nat) (h : (mkIns s p).op = 13 ∨ (mkIns s p).op = 14 ∨ (mkIns s p).op = 15) : ((mkIns s p).to : Int) = (mkIns s p).next + (mkIns s p).arg := by
  have := jump_arg s p h
  unfold Ins.to
  omega
theorem attr_in (k : Int) (x : Itm) (b : Bn) (hx : x.Ok) (hb : b.Ok) : In64 (attrN k x b) := by
  unfold Itm.Ok at hx
  unfold Bn.Ok at hb
  unfold attrN In64
  repeat' split
  all_goals omega
theorem AtStep.go {s : ByteArray} {l : List Ins} {most : Nat} {G : Nat → Int} {p : Nat} {st st' : List Int} {q : Nat} {x : Itm} {b : Bn} (h : AtStep s l most G p st) (hx : x.Ok) (hb : b.Ok) (hs : stepM x b (mkIns s p) st = .inr (q, st')) : AtStep s l most G q st' ∧ p < q := by
  have ht := h.tall
  have hok := h.ok
  have hop : (mkIns s p).op = bt s p := rfl
  have hd : ∀ k, ∀ v ∈ st.drop k, In64 v := fun k v hv => h.nums v (List.mem_of_mem_drop hv)
  have hfst : In64 (fst st) := by
    unfold fst
    cases st with
    | nil => decide
    | cons a r => exact h.nums a (by simp)
  have hsnd : In64 (snd st) := by
    unfold snd
    cases hdd : st.drop 1 with
    | nil => decide
    | cons a r => exact hd 1 a (by rw [hdd]; simp)
  have hnx : (bt s p ≠ 13 ∧ bt s p ≠ 16 ∧ bt s p ≠ 17) → Flows (mkIns s p) (mkIns s p).next := fun hh => .inl ⟨hh.1, hh.2.1, hh.2.2, rfl⟩
  have hto : (bt s p = 13 ∨ bt s p = 14 ∨ bt s p = 15) → Flows (mkIns s p) (mkIns s p).to := fun hh => .inr ⟨hh, jump_to s p hh⟩
  have hc17 : bt s p ≤ 17 := hok.2.1
  unfold stepM at hs
  simp only [hop] at hs
  split at hs
  · simp at hs
  split at hs
  · simp at hs
  split at hs
  · rename_i h0
    simp at hs
    obtain ⟨rfl, rfl⟩ := hs
    refine h.next (hnx (by omega)) (by simp [takesN, laysN, h0]) ?_
    intro v hv
    rcases List.mem_cons.1 hv with rfl | hv
    · exact in_wrap _
    · exact h.nums v hv
  split at hs
  · rename_i h0
    simp at hs
    obtain ⟨rfl, rfl⟩ := hs
    refine h.next (hnx (by omega)) (by simp [takesN, laysN, h0]) ?_
    intro v hv
    rcases List.mem_cons.1 hv with rfl | hv
    · exact attr_in _ x b hx hb
    · exact h.nums v hv
  split at hs
  · rename_i h0
    unfold layM at hs
    split at hs
    · simp at hs
      obtain ⟨rfl, rfl⟩ := hs
      rw [h0] at ht
      simp [takesN] at ht
      refine h.next (hnx (by omega)) (by simp [takesN, laysN, h0]; omega) ?_
      intro v hv
      rcases List.mem_cons.1 hv with rfl | hv
      · exact neg_in _
      · exact hd 1 v (by simpa using hv)
    · simp at hs
  split at hs
  · rename_i h0
    simp at hs
    obtain ⟨rfl, rfl⟩ := hs
    rw [h0] at ht
    simp [takesN] at ht
    refine h.next (hnx (by omega)) (by simp [takesN, laysN, h0]; omega) ?_
    intro v hv
    rcases List.mem_cons.1 hv with rfl | hv
    · unfold bitN; split <;> decide
    · exact hd 1 v (by simpa using hv)
  split at hs
  · rename_i h0
    simp at hs
    obtain ⟨rfl, rfl⟩ := hs
    exact h.next (hto (by omega)) (by simp [takesN, laysN, h0]) h.nums
  split at hs
  · rename_i h0
    simp at hs
    obtain ⟨rfl, rfl⟩ := hs
    rw [h0] at ht
    simp [takesN] at ht
    refine h.next ?_ (by simp [takesN, laysN, h0]; omega) (fun v hv => hd 1 v (by simpa using hv))
    split
    · exact hto (by omega)
    · exact hnx (by omega)
  split at hs
  · rename_i h0
    simp at hs
    obtain ⟨rfl, rfl⟩ := hs
    rw [h0] at ht
    simp [takesN] at ht
    refine h.next ?_ (by simp [takesN, laysN, h0]; omega) (fun v hv => hd 1 v (by simpa using hv))
    split
    · exact hnx (by omega)
    · exact hto (by omega)
  · unfold layM at hs
    split at hs
    · simp at hs
      obtain ⟨rfl, rfl⟩ := hs
      have h2 : takesN (bt s p) = 2 := by unfold takesN; rw [if_neg (by omega), if_neg (by omega)]
      have h3 : laysN (bt s p) = 1 := by unfold laysN; rw [if_neg (by omega)]
      rw [h2] at ht
      refine h.next (hnx (by omega)) (by rw [h2, h3]; simp; omega) ?_
      intro v hv
      rcases List.mem_cons.1 hv with rfl | hv
      · exact join_in _ _ _ hsnd hfst
      · exact hd 2 v (by simpa using hv)
    · simp at hs
end Go.Proofs.YtjjbmbjmdgoofaaGreatDoor
