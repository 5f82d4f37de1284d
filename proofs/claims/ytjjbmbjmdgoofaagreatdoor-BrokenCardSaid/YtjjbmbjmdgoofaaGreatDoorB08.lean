/-
  Images, in the document's words: the operations that stand in some bytes, their heights, and what makes them an image.
-/
import Derived.WalkKit
import Derived.WalkSpells
import Derived.WalkLawsBesides
import Derived.Deep.QuietTactic
import Derived.BigQuiet
set_option linter.unusedVariables false
set_option linter.unusedSimpArgs false
namespace Go.Proofs.YtjjbmbjmdgoofaaGreatDoor
open Go.RowKit
def bt (s : ByteArray) (i : Nat) : Nat := if h : i < s.size then (s[i]).toNat else 0
theorem bt_lt (s : ByteArray) (i : Nat) : bt s i < 256 := by
  unfold bt
  split
  · exact UInt8.toNat_lt _
  · omega
def lowU (s : ByteArray) : Nat → Nat → Nat
  | _, 0 => 0
  | p, n + 1 => bt s p + 256 * lowU s (p + 1) n
theorem lowU_two (s : ByteArray) (p : Nat) : lowU s p 2 < 65536 := by
  have h1 := bt_lt s p
  have h2 := bt_lt s (p + 1)
  simp only [lowU]; omega
def behindN (c : Nat) : Nat := if c = 0 then 8 else if c = 1 then 1 else if c = 13 ∨ c = 14 ∨ c = 15 then 2 else 0
def takesN (c : Nat) : Nat := if c = 0 ∨ c = 1 ∨ c = 13 ∨ c = 17 then 0 else if c = 2 ∨ c = 3 ∨ c = 14 ∨ c = 15 ∨ c = 16 then 1 else 2
def laysN (c : Nat) : Nat := if 13 ≤ c then 0 else 1
structure Ins where
  pos : Nat
  op : Nat
  arg : Int
  next : Nat
def mkIns (s : ByteArray) (p : Nat) : Ins := ⟨p, bt s p, IntKind.i64.wrap (lowU s (p + 1) (behindN (bt s p)) : Nat), p + 1 + behindN (bt s p)⟩
def OpOkI (s : ByteArray) (p : Nat) : Prop := p < s.size ∧ bt s p ≤ 17 ∧ p + 1 + behindN (bt s p) ≤ s.size ∧ (bt s p = 1 → bt s (p + 1) ≤ 6)
def Chain (s : ByteArray) : Nat → List Ins → Nat → Prop
  | p, [], q => p = q
  | p, o :: r, q => OpOkI s p ∧ o = mkIns s p ∧ Chain s o.next r q
def Flows (o : Ins) (q : Nat) : Prop := (o.op ≠ 13 ∧ o.op ≠ 16 ∧ o.op ≠ 17 ∧ q = o.next) ∨ ((o.op = 13 ∨ o.op = 14 ∨ o.op = 15) ∧ (q : Int) = o.next + o.arg)
def Lawful (l : List Ins) (most : Nat) (H : Nat → Int) : Prop :=
  H 3 = 0 ∧ ∀ o ∈ l, (takesN o.op : Int) ≤ H o.pos ∧ H o.pos ≤ most ∧ (∀ q, Flows o q → (∃ o' ∈ l, o'.pos = q) ∧ H q = H o.pos - takesN o.op + laysN o.op) ∧ (o.pos = 3 ∨ ∃ o' ∈ l, Flows o' o.pos)
theorem Chain.le {s : ByteArray} : ∀ {l : List Ins} {p q : Nat}, Chain s p l q → p ≤ q
  | [], _, _, h => Nat.le_of_eq h
  | o :: r, p, q, h => by
    obtain ⟨_, rfl, h3⟩ := h
    have := Chain.le h3
    simp only [mkIns] at this
    omega
theorem Chain.mem {s : ByteArray} : ∀ {l : List Ins} {p q : Nat}, Chain s p l q → ∀ o ∈ l, p ≤ o.pos ∧ o.next ≤ q ∧ OpOkI s o.pos ∧ o = mkIns s o.pos
  | [], _, _, _, o, ho => by simp at ho
  | a :: r, p, q, h, o, ho => by
    obtain ⟨h1, rfl, h3⟩ := h
    rcases List.mem_cons.1 ho with rfl | ho
    · exact ⟨Nat.le_refl _, h3.le, h1, rfl⟩
    · obtain ⟨h4, h5⟩ := Chain.mem h3 o ho
      exact ⟨by simp only [mkIns] at h4; omega, h5⟩
theorem next_pos (s : ByteArray) (p : Nat) : p < (mkIns s p).next := by simp only [mkIns]; omega
theorem wrap_small (n : Nat) (h : n < 65536) : IntKind.i64.wrap (n : Nat) = n := IntWalk.i64_in _ ⟨by omega, by omega⟩
theorem jump_arg (s : ByteArray) (p : Nat) (h : (mkIns s p).op = 13 ∨ (mkIns s p).op = 14 ∨ (mkIns s p).op = 15) : (mkIns s p).arg = lowU s (p + 1) 2 := by
  have hb : behindN (bt s p) = 2 := by
    simp only [mkIns] at h
    unfold behindN; rcases h with h | h | h <;> simp [h]
  simp only [mkIns, hb]
  exact wrap_small _ (lowU_two s _)
theorem Flows.lt {s : ByteArray} {p q : Nat} (h : Flows (mkIns s p) q) : p < q := by
  rcases h with ⟨_, _, _, rfl⟩ | ⟨hj, hq⟩
  · exact next_pos s p
  · rw [jump_arg s p hj] at hq
    have := next_pos s p
    omega
theorem Flows.le {s : ByteArray} {p q : Nat} (h : Flows (mkIns s p) q) : (mkIns s p).next ≤ q := by
  rcases h with ⟨_, _, _, rfl⟩ | ⟨hj, hq⟩
  · exact Nat.le_refl _
  · rw [jump_arg s p hj] at hq
    omega
end Go.Proofs.YtjjbmbjmdgoofaaGreatDoor
namespace Go.Proofs.YtjjbmbjmdgoofaaGreatDoor
open Go.RowKit
abbrev In64 (n : Int) : Prop := -9223372036854775808 ≤ n ∧ n ≤ 9223372036854775807
theorem wrap_in {n : Int} (h : In64 n) : IntKind.i64.wrap n = n := IntWalk.i64_in n h
theorem in_wrap (n : Int) : In64 (IntKind.i64.wrap n) := by rw [IntKind.wrap_i64]; unfold In64; omega
theorem wrap_off (n : Int) : ∃ k : Int, IntKind.i64.wrap n = n + 18446744073709551616 * k := by
  rw [IntKind.wrap_i64]
  exact ⟨-((n + 9223372036854775808) / 18446744073709551616), by omega⟩
def exact64 (v : Int) : Int × Nat := if In64 v then (v, 0) else (0, 1)
def bitN (b : Bool) : Int := if b then 1 else 0
def joinN (c : Nat) (a b : Int) : Int × Nat :=
  if c = 4 then exact64 (a + b)
  else if c = 5 then exact64 (a - b)
  else if c = 6 then exact64 (a * b)
  else if c = 7 then (if b = 0 then (0, 2) else exact64 (a.tdiv b))
  else if c = 8 then (if b = 0 then (0, 2) else if a = -9223372036854775808 ∧ b = -1 then (0, 1) else (a.tmod b, 0))
  else if c = 9 then (bitN (decide (a < b)), 0)
  else if c = 10 then (bitN (decide (a ≤ b)), 0)
  else if c = 11 then (bitN (decide (a = b)), 0)
  else (bitN (decide (a ≠ b)), 0)
def negN (a : Int) : Int × Nat := exact64 (0 - a)
theorem exact_in {v : Int} (h : In64 v) : exact64 v = (v, 0) := if_pos h
theorem exact_out {v : Int} (h : ¬ In64 v) : exact64 v = (0, 1) := if_neg h
theorem tdiv_bound (a b : Int) (hb : b ≠ 0) : (a - b * a.tdiv b).natAbs < b.natAbs := by
  have h1 := Int.tmod_add_mul_tdiv a b
  have h2 : a - b * a.tdiv b = a.tmod b := by omega
  rw [h2, Int.natAbs_tmod]
  exact Nat.mod_lt _ (by omega)
theorem tdiv_in (a b : Int) (ha : In64 a) (hb : In64 b) (h0 : b ≠ 0) (hne : ¬ (a = -9223372036854775808 ∧ b = -1)) : In64 (a.tdiv b) := by
  have hab : (a.tdiv b).natAbs = a.natAbs / b.natAbs := Int.natAbs_tdiv a b
  have hle : (a.tdiv b).natAbs ≤ a.natAbs := by rw [hab]; exact Nat.div_le_self _ _
  unfold In64 at *
  by_cases h1 : a = -9223372036854775808
  · have hb1 : b ≠ -1 := fun h => hne ⟨h1, h⟩
    by_cases hb2 : b = 1
    · subst hb2; rw [Int.tdiv_one]; exact ha
    · have h2 : 2 ≤ b.natAbs := by omega
      have : a.natAbs / b.natAbs ≤ a.natAbs / 2 := Nat.div_le_div_left h2 (by omega)
      omega
  · omega
theorem tdiv_out : ¬ In64 ((-9223372036854775808 : Int).tdiv (-1)) := by decide
theorem join_div (a b : Int) (ha : In64 a) (hb : In64 b) (h0 : b ≠ 0) : joinN 7 a b = if a = -9223372036854775808 ∧ b = -1 then (0, 1) else (a.tdiv b, 0) := by
  simp only [joinN]
  rw [if_neg (by omega), if_neg (by omega), if_neg (by omega), if_pos trivial, if_neg h0]
  split
  · rename_i h; rw [h.1, h.2]; exact exact_out tdiv_out
  · rename_i h; exact exact_in (tdiv_in a b ha hb h0 h)
theorem mul_test (a b : Int) (ha : In64 a) (hb : In64 b) (h0 : b ≠ 0) : (IntKind.i64.wrap (a * b)).tdiv b = a ↔ In64 (a * b) := by
  constructor
  · intro h
    obtain ⟨k, hk⟩ := wrap_off (a * b)
    have hi := in_wrap (a * b)
    have h1 := tdiv_bound (IntKind.i64.wrap (a * b)) b h0
    rw [h, Int.mul_comm b a] at h1
    by_cases hk0 : k = 0
    · rw [hk, hk0] at hi; simpa using hi
    · unfold In64 at *
      omega
  · intro h
    rw [wrap_in h]
    exact Int.mul_tdiv_cancel a h0
theorem join_in (c : Nat) (a b : Int) (ha : In64 a) (hb : In64 b) : In64 (joinN c a b).1 := by
  have e : ∀ v, In64 (exact64 v).1 := fun v => by unfold exact64; split <;> simp_all [In64]
  have e0 : In64 (0 : Int) := by decide
  have e1 : ∀ x, In64 (bitN x) := fun x => by cases x <;> decide
  have em : In64 (a.tmod b) := by
    have h2 : (a.tmod b).natAbs = a.natAbs % b.natAbs := Int.natAbs_tmod a b
    have h3 := Nat.mod_le a.natAbs b.natAbs
    have h4 := Int.tmod_nonneg (a := a) b
    unfold In64 at *
    by_cases h : 0 ≤ a
    · have := h4 h; omega
    · have h5 := Int.tmod_nonneg (a := -a) b (by omega)
      rw [Int.neg_tmod] at h5
      omega
  unfold joinN
  repeat' split
  all_goals first | exact e _ | exact e0 | exact e1 _ | exact em
end Go.Proofs.YtjjbmbjmdgoofaaGreatDoor
namespace Go.Proofs.YtjjbmbjmdgoofaaGreatDoor
open Go.RowKit
end Go.Proofs.YtjjbmbjmdgoofaaGreatDoor
namespace Go.Proofs.YtjjbmbjmdgoofaaGreatDoor
open Go.RowKit
structure Itm where
  size : Int
  speed : Int
  need : Int
structure Bn where
  id : Int
  zone : Int
  cap : Int
  used : Int
  has : Int
def attrN (k : Int) (x : Itm) (b : Bn) : Int :=
  if k = 0 then x.size else if k = 1 then x.speed else if k = 2 then x.need else if k = 3 then b.zone else if k = 4 then b.cap else if k = 5 then b.used else if k = 6 then b.has else 0
def Itm.Ok (x : Itm) : Prop := (1 ≤ x.size ∧ x.size ≤ 1000) ∧ (0 ≤ x.speed ∧ x.speed ≤ 1000) ∧ (0 ≤ x.need ∧ x.need ≤ 2)
def Bn.Ok (b : Bn) : Prop := (0 ≤ b.id ∧ b.id ≤ 1000) ∧ (0 ≤ b.zone ∧ b.zone ≤ 9) ∧ (1 ≤ b.cap ∧ b.cap ≤ 1000) ∧ (0 ≤ b.used ∧ b.used ≤ b.cap) ∧ (0 ≤ b.has ∧ b.has ≤ 2)
def fst (st : List Int) : Int := st.headD 0
def snd (st : List Int) : Int := (st.drop 1).headD 0
def Ins.to (o : Ins) : Nat := (o.next + o.arg).toNat
def layM (r : Int × Nat) (p : Nat) (st : List Int) : (Nat × Int) ⊕ (Nat × List Int) := if r.2 = 0 then .inr (p, r.1 :: st) else .inl (2, r.2)
def stepM (x : Itm) (b : Bn) (o : Ins) (st : List Int) : (Nat × Int) ⊕ (Nat × List Int) :=
  if o.op = 16 then .inl (1, fst st)
  else if o.op = 17 then .inl (0, 0)
  else if o.op = 0 then .inr (o.next, o.arg :: st)
  else if o.op = 1 then .inr (o.next, attrN o.arg x b :: st)
  else if o.op = 2 then layM (negN (fst st)) o.next (st.drop 1)
  else if o.op = 3 then .inr (o.next, bitN (decide (fst st = 0)) :: st.drop 1)
  else if o.op = 13 then .inr (o.to, st)
  else if o.op = 14 then .inr (if fst st = 0 then o.to else o.next, st.drop 1)
  else if o.op = 15 then .inr (if fst st = 0 then o.next else o.to, st.drop 1)
  else layM (joinN o.op (snd st) (fst st)) o.next (st.drop 2)
def runM (s : ByteArray) (x : Itm) (b : Bn) : Nat → Nat → List Int → Nat → Nat × Int × Nat
  | 0, _, _, n => (0, 0, n)
  | f + 1, p, st, n => match stepM x b (mkIns s p) st with
    | .inl (k, v) => (k, v, n + 1)
    | .inr (p', st') => runM s x b f p' st' (n + 1)
structure AtStep (s : ByteArray) (l : List Ins) (most : Nat) (G : Nat → Int) (p : Nat) (st : List Int) : Prop where
  chain : Chain s 3 l s.size
  law : Lawful l most G
  here : mkIns s p ∈ l
  high : G p = st.length
  nums : ∀ v ∈ st, In64 v
theorem AtStep.ok {s : ByteArray} {l : List Ins} {most : Nat} {G : Nat → Int} {p : Nat} {st : List Int} (h : AtStep s l most G p st) : OpOkI s p := (h.chain.mem _ h.here).2.2.1
theorem AtStep.next {s : ByteArray} {l : List Ins} {most : Nat} {G : Nat → Int} {p : Nat} {st st' : List Int} {q : Nat} (h : AtStep s l most G p st) (hf : Flows (mkIns s p) q) (hn : (st'.length : Int) = st.length - takesN (bt s p) + laysN (bt s p)) (hi : ∀ v ∈ st', In64 v) : AtStep s l most G q st' ∧ p < q := by
  obtain ⟨⟨o, ho, rfl⟩, h2⟩ := (h.law.2 _ h.here).2.2.1 q hf
  have hm := h.chain.mem o ho
  refine ⟨⟨h.chain, h.law, by rw [← hm.2.2.2]; exact ho, ?_, hi⟩, hf.lt⟩
  rw [h2, hn]
  show G p - takesN (bt s p) + laysN (bt s p) = _
  rw [h.high]
end Go.Proofs.YtjjbmbjmdgoofaaGreatDoor
namespace Go.Proofs.YtjjbmbjmdgoofaaGreatDoor
open Go.RowKit
def Sits (s : ByteArray) (p : Nat) (c : List Nat) : Prop := ∀ i b, c[i]? = some b → p + i < s.size ∧ bt s (p + i) = b
theorem Sits.left {s : ByteArray} {p : Nat} {c d : List Nat} (h : Sits s p (c ++ d)) : Sits s p c := fun i b hi => h i b (by
  have hlt := (List.getElem?_eq_some_iff.1 hi).1
  rw [List.getElem?_append_left hlt]; exact hi)
theorem Sits.right {s : ByteArray} {p : Nat} {c d : List Nat} (h : Sits s p (c ++ d)) : Sits s (p + c.length) d := fun i b hi => by
  have := h (c.length + i) b (by rw [List.getElem?_append_right (by omega), show c.length + i - c.length = i by omega]; exact hi)
  rw [← Nat.add_assoc] at this
  exact this
def DoesSo (s : ByteArray) (x : Itm) (y : Bn) (p q : Nat) (v : Int) (flt steps : Nat) : Prop :=
  (flt = 0 ∧ ∀ f st n, runM s x y (f + steps) p st n = runM s x y f q (v :: st) (n + steps)) ∨
  (flt ≠ 0 ∧ ∀ f st n, steps ≤ f → runM s x y f p st n = (2, (flt : Int), n + steps))
end Go.Proofs.YtjjbmbjmdgoofaaGreatDoor
namespace Go.Proofs.YtjjbmbjmdgoofaaGreatDoor
open Go.RowKit
end Go.Proofs.YtjjbmbjmdgoofaaGreatDoor
namespace Go.Proofs.YtjjbmbjmdgoofaaGreatDoor
open Go.RowKit
structure Seg (s : ByteArray) (p q : Nat) (h e hi : Int) (l : List Ins) (H : Nat → Int) : Prop where
  chain : Chain s p l q
  start : H p = h
  fin : H q = e
  ops : ∀ o ∈ l, (takesN o.op : Int) ≤ H o.pos ∧ H o.pos ≤ hi ∧ ∀ r, Flows o r → (r = q ∨ ∃ o' ∈ l, o'.pos = r) ∧ H r = H o.pos - takesN o.op + laysN o.op
  reach : ∀ o ∈ l, o.pos = p ∨ ∃ o' ∈ l, Flows o' o.pos
  out : ∃ o ∈ l, Flows o q
  ends : e ≤ hi
  top : (∃ o ∈ l, H o.pos = hi) ∨ e = hi
theorem Seg.lt {s : ByteArray} {p q : Nat} {h e hi : Int} {l : List Ins} {H : Nat → Int} (g : Seg s p q h e hi l H) : p < q := by
  obtain ⟨o, ho, hf⟩ := g.out
  have hm := g.chain.mem o ho
  rw [hm.2.2.2] at hf
  have := hf.lt
  omega
end Go.Proofs.YtjjbmbjmdgoofaaGreatDoor
namespace Go.Proofs.YtjjbmbjmdgoofaaGreatDoor
open Go.RowKit
structure PB where
  code : List Nat
  v : Int
  flt : Nat
  steps : Nat
  high : Nat
structure PB.Ok (x : Itm) (y : Bn) (b : PB) : Prop where
  does : ∀ s p, Sits s p b.code → DoesSo s x y p (p + b.code.length) b.v b.flt b.steps
  seg : ∀ s p (h : Int), Sits s p b.code → 0 ≤ h → ∃ l H, Seg s p (p + b.code.length) h (h + 1) (h + b.high) l H
  num : In64 b.v
  le2 : b.flt ≤ 2
  pos : 1 ≤ b.high
end Go.Proofs.YtjjbmbjmdgoofaaGreatDoor
namespace Go.Proofs.YtjjbmbjmdgoofaaGreatDoor
open Go.RowKit
end Go.Proofs.YtjjbmbjmdgoofaaGreatDoor
namespace Go.Proofs.YtjjbmbjmdgoofaaGreatDoor
open Go.RowKit
end Go.Proofs.YtjjbmbjmdgoofaaGreatDoor
namespace Go.Proofs.YtjjbmbjmdgoofaaGreatDoor
open Go.RowKit
def Blk (w : World) (b : Nat) (cs : Array Value) (t : TypeId) : Prop := w.heap[b]? = some (.cells cs t (0, 0))
theorem Blk.cell {w : World} {b : Nat} {cs : Array Value} {t : TypeId} (h : Blk w b cs t) (i : Nat) : w.cell? ⟨b, i, none⟩ = cs[i]? := by
  unfold Blk at h; simp [World.cell?, h]
theorem Blk.free {w : World} {b : Nat} {cs : Array Value} {t : TypeId} (h : Blk w b cs t) (i : Nat) : w.frozen? ⟨b, i, none⟩ = false := by
  unfold Blk at h; simp [World.frozen?, h]
theorem Blk.lt {w : World} {b : Nat} {cs : Array Value} {t : TypeId} (h : Blk w b cs t) : b < w.heap.size := lt_of_block h
theorem Blk.set {w : World} {b : Nat} {cs : Array Value} {t : TypeId} (h : Blk w b cs t) (i : Nat) (v : Value) : Blk (w.setCell ⟨b, i, none⟩ v) b (cs.setIfInBounds i v) t := by
  have hlt := h.lt
  have h' : w.heap[b] = .cells cs t (0, 0) := by unfold Blk at h; simpa [Array.getElem?_eq_getElem hlt] using h
  show (w.heap.modify b _)[b]? = _
  rw [Array.getElem?_eq_getElem (by simpa using hlt), Array.getElem_modify_self, h']
  rfl
theorem Blk.other {w : World} {b : Nat} {cs : Array Value} {t : TypeId} (h : Blk w b cs t) (a : Addr) (v : Value) (hne : b ≠ a.block) : Blk (w.setCell a v) b cs t := by
  unfold Blk; rw [Below.heap_setCell _ _ _ _ hne]; exact h
theorem Blk.below {w w' : World} {b B : Nat} {cs : Array Value} {t : TypeId} (h : Blk w b cs t) (hb : Below B w w') (hB : b < B) : Blk w' b cs t := by
  unfold Blk; rw [hb.block b hB]; exact h
theorem Blk.alloc {w : World} {b : Nat} {cs : Array Value} {t : TypeId} (h : Blk w b cs t) (o : Obj) : Blk (w.alloc o) b cs t :=
  h.below ((Below.refl w.heap.size w).alloc (Nat.le_refl _) o) h.lt
theorem Blk.new (w : World) (cs : Array Value) (t : TypeId) : Blk (w.alloc (.cells cs t)) w.heap.size cs t := heap_alloc_new w _
theorem Blk.drew {w : World} {b : Nat} {cs : Array Value} {t : TypeId} (h : Blk w b cs t) : Blk w.drew b cs t := h
theorem ret_bool {a b : Bool} (h : a = b) : Ending.returned (.bool a) = .returned (.bool b) := by rw [h]
theorem ret_int {k : IntKind} {a b : Int} (h : a = b) : Ending.returned (.int k a) = .returned (.int k b) := by rw [h]
def Reads (w : World) (v : Value) (n : Nat) (xs : List Value) : Prop :=
  (v = .slice none 0 0 ∧ n = 0 ∧ xs = []) ∨ ∃ b o cap, v = .slice (some ⟨b, o, none⟩) n cap ∧ n ≤ cap ∧ b < w.heap.size ∧ ∀ j u, xs[j]? = some u → w.cell? ⟨b, o + j, none⟩ = some u
theorem Reads.below {w w' : World} {v : Value} {n : Nat} {xs : List Value} (h : Reads w v n xs) (hb : Below w.heap.size w w') : Reads w' v n xs := by
  rcases h with h | ⟨b, o, cap, rfl, hn, hlt, hc⟩
  · exact .inl h
  · exact .inr ⟨b, o, cap, rfl, hn, Nat.lt_of_lt_of_le hlt hb.size, fun j u hj => (hb.cell (p := ⟨b, o + j, none⟩) hlt).trans (hc j u hj)⟩
theorem Reads.pos {w : World} {v : Value} {n : Nat} {xs : List Value} (h : Reads w v n xs) (hn : 0 < n) :
    ∃ g o cap, v = .slice (some ⟨g, o, none⟩) n cap ∧ n ≤ cap ∧ g < w.heap.size ∧ ∀ j u, xs[j]? = some u → w.cell? ⟨g, o + j, none⟩ = some u := by
  rcases h with ⟨_, h, _⟩ | h
  · omega
  · exact h
theorem Reads.alloc {w : World} {v : Value} {n : Nat} {xs : List Value} (h : Reads w v n xs) (o : Obj) : Reads (w.alloc o) v n xs := h.below ((Below.refl _ _).alloc (Nat.le_refl _) o)
theorem Reads.shape {w : World} {v : Value} {n : Nat} {xs : List Value} (h : Reads w v n xs) : ∃ a c, v = .slice a n c := by
  rcases h with ⟨rfl, h, _⟩ | ⟨g, o, cap, rfl, _⟩
  · exact ⟨none, 0, by rw [h]⟩
  · exact ⟨_, _, rfl⟩
theorem run_index_nat {P : Program} (w : World) (t : TypeId) (s : ByteArray) (k : IntKind) (i : Int) (n : Nat) (h : P.underlying t = some .string) (hi : i = (n : Int)) (hn : n < s.size) :
    (Instr.index t (.string s) (.int k i)).run P w = .ok (.int .u8 s[n].toNat) w := by
  subst hi
  rw [run_index_string w t s k _ h, dif_pos ⟨by omega, by omega⟩]
  simp
theorem below_drewN {B : Nat} {a w : World} (h : Below B a w) (n : Nat) : Below B a (w.drewN n) := h.trans ⟨rfl, rfl, rfl, Nat.le_refl _, fun _ _ => rfl⟩
theorem own_below {w w' : World} {base : Nat} {e : TypeId} {size : Nat} {v : Value} {n : Nat} {xs : List Value} (h : w.ownsRow base e size v n xs) (hb : Below w.heap.size w w') : w'.ownsRow base e size v n xs := by
  refine ⟨h.1, ?_⟩
  rcases h.2 with hn | ⟨g, cap, cur, rfl, hbg, hg, r⟩
  · exact .inl hn
  · exact .inr ⟨g, cap, cur, rfl, hbg, by rw [hb.block g (Array.getElem?_eq_some_iff.1 hg).1]; exact hg, r⟩
theorem reads_of_own {w : World} {base : Nat} {e : TypeId} {size : Nat} {v : Value} {n : Nat} {xs : List Value} (h : w.ownsRow base e size v n xs) : Reads w v n xs := by
  rcases h.2 with ⟨rfl, rfl⟩ | ⟨g, cap, cur, rfl, hb, hg, hnc, hcm, hcs, htk⟩
  · refine .inl ⟨rfl, rfl, ?_⟩
    have := h.1
    simpa using this
  · refine .inr ⟨g, 0, cap, rfl, hnc, lt_of_block hg, fun j u hj => ?_⟩
    have hlt : j < n * size := by
      have := h.1
      rw [List.getElem?_eq_some_iff] at hj
      obtain ⟨h1, _⟩ := hj
      omega
    rw [Nat.zero_add, h.cellAt j hlt]
    exact hj
theorem own_ne {w : World} {b1 b2 : Nat} {e1 e2 : TypeId} {s1 s2 : Nat} {v1 v2 : Value} {n1 n2 : Nat} {x1 x2 : List Value} (h1 : w.ownsRow b1 e1 s1 v1 n1 x1) (h2 : w.ownsRow b2 e2 s2 v2 n2 x2) (he : e1 ≠ e2) : v1.ownBlock = none ∨ v1.ownBlock ≠ v2.ownBlock := by
  rcases h1.2 with ⟨rfl, _⟩ | ⟨g1, c1, cur1, rfl, _, hg1, _⟩
  · exact .inl rfl
  · right
    rcases h2.2 with ⟨rfl, _⟩ | ⟨g2, c2, cur2, rfl, _, hg2, _⟩
    · simp [Value.ownBlock]
    · intro e
      simp only [Value.ownBlock, Option.some.injEq] at e
      rw [e, hg2] at hg1
      simp only [Option.some.injEq, Obj.cells.injEq] at hg1
      exact he hg1.2.1.symm
end Go.Proofs.YtjjbmbjmdgoofaaGreatDoor
