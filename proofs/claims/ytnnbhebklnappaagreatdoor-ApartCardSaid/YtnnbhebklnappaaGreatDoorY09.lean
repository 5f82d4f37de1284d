/-
  Images: the heights by the numbers of the operations: what holds while they are worked out, pass by pass.
  What the operations of an image do, step by step: plain; and that within an image the stack is never too low.
  Images of known making: blocks of operations that lay one number: what they do, and their heights; plain.
-/
import Derived.Test.YtnnbhebklnappaaGreatDoorY08
set_option linter.unusedVariables false
set_option linter.unusedSimpArgs false
namespace Go.Proofs.YtnnbhebklnappaaGreatDoor
open Go.RowKit

/-- The height behind an operation that has that one. -/
def afterH (o : Ins) (h : Int) : Int := h - takesN o.op + laysN o.op
def nth (l : List Ins) (i : Nat) : Ins := l[i]?.getD ⟨0, 0, 0, 0⟩
theorem nth_get (l : List Ins) (i : Nat) (h : i < l.length) : nth l i = l[i] := by simp [nth, h]
theorem nth_mem (l : List Ins) (i : Nat) (h : i < l.length) : nth l i ∈ l := by rw [nth_get l i h]; exact List.getElem_mem h
theorem Chain.sorted {s : ByteArray} : ∀ {l : List Ins} {p q : Nat}, Chain s p l q → ∀ i j, i < j → j < l.length → (nth l i).pos < (nth l j).pos
  | [], _, _, _, i, j, _, h => by simp at h
  | a :: r, p, q, h, i, j, hij, hj => by
    obtain ⟨h1, rfl, h3⟩ := h
    cases j with
    | zero => omega
    | succ j =>
      have hj' : j < r.length := by simpa using hj
      have hn : nth (mkIns s p :: r) (j + 1) = nth r j := by simp [nth]
      rw [hn]
      cases i with
      | zero =>
        have := (Chain.mem h3 (nth r j) (nth_mem r j hj')).1
        have h4 := next_pos s p
        have h5 : (nth (mkIns s p :: r) 0).pos = p := by simp [nth, mkIns]
        omega
      | succ i =>
        have hi : nth (mkIns s p :: r) (i + 1) = nth r i := by simp [nth]
        rw [hi]
        exact Chain.sorted h3 i j (by omega) hj'
theorem Chain.inj {s : ByteArray} {l : List Ins} {p q : Nat} (h : Chain s p l q) (i j : Nat) (hi : i < l.length) (hj : j < l.length) (he : (nth l i).pos = (nth l j).pos) : i = j := by
  rcases Nat.lt_trichotomy i j with h1 | h1 | h1
  · have := h.sorted i j h1 hj; omega
  · exact h1
  · have := h.sorted j i h1 hi; omega
theorem mem_nth (l : List Ins) (o : Ins) (h : o ∈ l) : ∃ i, i < l.length ∧ nth l i = o := by
  obtain ⟨i, hi, he⟩ := List.getElem_of_mem h
  exact ⟨i, hi, by rw [nth_get l i hi, he]⟩
theorem Chain.zero {s : ByteArray} {l : List Ins} {p q : Nat} (h : Chain s p l q) (h0 : 0 < l.length) : (nth l 0).pos = p := by
  cases l with
  | nil => simp at h0
  | cons a r => obtain ⟨_, rfl, _⟩ := h; simp [nth, mkIns]

/-- The heights so far: each is the first one's, or comes from one ahead of it. -/
structure Known (s : ByteArray) (l : List Ins) (most : Nat) (hs : Nat → Int) : Prop where
  chain : Chain s 3 l s.size
  pos : 0 < l.length
  first : hs 0 = 0
  low : ∀ j, -1 ≤ hs j
  high : ∀ j, hs j ≤ most + 1
  src : ∀ j, j < l.length → 0 ≤ hs j → j = 0 ∨ ∃ i, i < j ∧ 0 ≤ hs i ∧ Flows (nth l i) (nth l j).pos ∧ hs j = afterH (nth l i) (hs i)
/-- The operations ahead of a number have handed theirs on. -/
def Settled (l : List Ins) (most : Nat) (hs : Nat → Int) (i : Nat) : Prop :=
  ∀ j, j < i → 0 ≤ hs j → (takesN (nth l j).op : Int) ≤ hs j ∧ hs j ≤ most ∧ ∀ q, Flows (nth l j) q → ∃ k, k < l.length ∧ (nth l k).pos = q ∧ hs k = afterH (nth l j) (hs j)
/-- The numbers of the operations that one goes on to. -/
structure WaysOk (l : List Ins) (i : Nat) (ks : List Nat) : Prop where
  all : ∀ q, Flows (nth l i) q → ∃ k ∈ ks, (nth l k).pos = q
  only : ∀ k ∈ ks, k < l.length ∧ Flows (nth l i) (nth l k).pos
  short : ks.length ≤ 2

theorem Known.agree {s : ByteArray} {l : List Ins} {most : Nat} {hs G : Nat → Int} (h : Known s l most hs) (hl : Lawful l most G) :
    ∀ n j, j < n → j < l.length → 0 ≤ hs j → hs j = G (nth l j).pos := by
  intro n
  induction n with
  | zero => intro j hj; omega
  | succ n ih =>
    intro j hj hjl h0
    rcases h.src j hjl h0 with rfl | ⟨i, hij, hi0, hf, he⟩
    · rw [h.first, h.chain.zero h.pos, hl.1]
    · have h1 := ih i (by omega) (by omega) hi0
      have h2 := ((hl.2 _ (nth_mem l i (by omega))).2.2.1 _ hf).2
      rw [he, h2, ← h1]; rfl
theorem Known.bad_way {s : ByteArray} {l : List Ins} {most : Nat} {hs : Nat → Int} {i q : Nat} (h : Known s l most hs) (hi : i < l.length) (hf : Flows (nth l i) q) (hb : ∀ k, k < l.length → (nth l k).pos ≠ q) : ∀ G, ¬ Lawful l most G := by
  intro G hl
  obtain ⟨o, ho, he⟩ := ((hl.2 _ (nth_mem l i hi)).2.2.1 _ hf).1
  obtain ⟨k, hk, rfl⟩ := mem_nth l o ho
  exact hb k hk he
theorem Known.bad_high {s : ByteArray} {l : List Ins} {most : Nat} {hs : Nat → Int} {i : Nat} (h : Known s l most hs) (hi : i < l.length) (h0 : 0 ≤ hs i) (hb : hs i < takesN (nth l i).op ∨ (most : Int) < hs i) : ∀ G, ¬ Lawful l most G := by
  intro G hl
  have h1 := h.agree hl (i + 1) i (by omega) hi h0
  obtain ⟨h2, h3, _⟩ := hl.2 _ (nth_mem l i hi)
  omega
theorem Known.bad_two {s : ByteArray} {l : List Ins} {most : Nat} {hs : Nat → Int} {i k : Nat} (h : Known s l most hs) (hi : i < l.length) (h0 : 0 ≤ hs i) (hk : k < l.length) (hf : Flows (nth l i) (nth l k).pos) (hk0 : 0 ≤ hs k) (hb : hs k ≠ afterH (nth l i) (hs i)) : ∀ G, ¬ Lawful l most G := by
  intro G hl
  have h1 := h.agree hl (i + 1) i (by omega) hi h0
  have h2 := h.agree hl (k + 1) k (by omega) hk hk0
  have h3 := ((hl.2 _ (nth_mem l i hi)).2.2.1 _ hf).2
  rw [← h1, ← h2] at h3
  exact hb h3
theorem Known.bad_none {s : ByteArray} {l : List Ins} {most : Nat} {hs : Nat → Int} (h : Known s l most hs) (hse : Settled l most hs l.length) {i : Nat} (hi : i < l.length) (hb : hs i < 0) : ∀ G, ¬ Lawful l most G := by
  intro G hl
  have : ∀ n j, j < n → j < l.length → 0 ≤ hs j := by
    intro n
    induction n with
    | zero => intro j hj; omega
    | succ n ih =>
      intro j hj hjl
      rcases (hl.2 _ (nth_mem l j hjl)).2.2.2 with h1 | ⟨o, ho, hf⟩
      · have : j = 0 := h.chain.inj j 0 hjl h.pos (by rw [h1, h.chain.zero h.pos])
        subst this
        rw [h.first]; omega
      · obtain ⟨k, hk, rfl⟩ := mem_nth l o ho
        have hkj : k < j := by
          have hm := (h.chain.mem _ (nth_mem l k hk)).2.2.2
          have hf' := hf
          rw [hm] at hf'
          have hlt := hf'.lt
          rcases Nat.lt_trichotomy k j with h1 | h1 | h1
          · exact h1
          · subst h1; omega
          · have := h.chain.sorted j k h1 hk; omega
        have hk0 := ih k (by omega) hk
        obtain ⟨h2, h3, h4⟩ := hse k hk hk0
        obtain ⟨k2, hk2, he, hh⟩ := h4 _ hf
        have := h.chain.inj k2 j hk2 hjl he
        subst this
        rw [hh]; unfold afterH; omega
  have := this (i + 1) i (by omega) hi
  omega
/-- All is settled, all have one: they are the heights of an image. -/
theorem Known.lawful {s : ByteArray} {l : List Ins} {most : Nat} {hs : Nat → Int} (h : Known s l most hs) (hse : Settled l most hs l.length) (hall : ∀ i, i < l.length → 0 ≤ hs i) : ∃ G, Lawful l most G := by
  let idx : Nat → Nat := fun q => (List.range l.length).find? (fun i => (nth l i).pos == q) |>.getD 0
  have hidx : ∀ i, i < l.length → idx (nth l i).pos = i := by
    intro i hi
    show ((List.range l.length).find? _).getD 0 = i
    cases hf : (List.range l.length).find? (fun j => (nth l j).pos == (nth l i).pos) with
    | none =>
      have := List.find?_eq_none.1 hf i (by simpa using hi)
      simp at this
    | some j =>
      have h1 := List.find?_some hf
      have h2 := List.mem_of_find?_eq_some hf
      simp at h1 h2
      simpa using h.chain.inj j i h2 hi h1
  refine ⟨fun q => hs (idx q), ?_, ?_⟩
  · have := hidx 0 h.pos
    rw [h.chain.zero h.pos] at this
    show hs (idx 3) = 0
    rw [this, h.first]
  · intro o ho
    obtain ⟨i, hi, rfl⟩ := mem_nth l o ho
    obtain ⟨h1, h2, h3⟩ := hse i hi (hall i hi)
    show _ ≤ hs (idx _) ∧ hs (idx _) ≤ _ ∧ (∀ q, _ → _ ∧ hs (idx q) = hs (idx _) - _ + _) ∧ _
    rw [hidx i hi]
    refine ⟨h1, h2, fun q hq => ?_, ?_⟩
    · obtain ⟨k, hk, rfl, hh⟩ := h3 q hq
      exact ⟨⟨_, nth_mem l k hk, rfl⟩, by rw [hidx k hk, hh]; rfl⟩
    · rcases h.src i hi (hall i hi) with rfl | ⟨j, hj, _, hf, _⟩
      · exact .inl (h.chain.zero h.pos)
      · exact .inr ⟨_, nth_mem l j (by omega), hf⟩
/-- One height more. -/
def upd (hs : Nat → Int) (k : Nat) (v : Int) : Nat → Int := fun j => if j = k then v else hs j
theorem Known.put {s : ByteArray} {l : List Ins} {most : Nat} {hs : Nat → Int} {i k : Nat} (h : Known s l most hs) (hi : i < l.length) (h0 : 0 ≤ hs i) (ht : (takesN (nth l i).op : Int) ≤ hs i) (hm : hs i ≤ most) (hk : k < l.length) (hf : Flows (nth l i) (nth l k).pos) (hk0 : hs k < 0) :
    Known s l most (upd hs k (afterH (nth l i) (hs i))) ∧ (Settled l most hs i → Settled l most (upd hs k (afterH (nth l i) (hs i))) i) ∧ i < k := by
  have hik : i < k := by
    have hmm := (h.chain.mem _ (nth_mem l i hi)).2.2.2
    have hf' := hf
    rw [hmm] at hf'
    have hlt := hf'.lt
    rcases Nat.lt_trichotomy i k with h1 | h1 | h1
    · exact h1
    · subst h1; omega
    · have := h.chain.sorted k i h1 hi; omega
  have ha : 0 ≤ afterH (nth l i) (hs i) := by unfold afterH; omega
  have ha2 : afterH (nth l i) (hs i) ≤ most + 1 := by unfold afterH laysN; split <;> omega
  have hne : ∀ j, 0 ≤ hs j → upd hs k (afterH (nth l i) (hs i)) j = hs j := by
    intro j hj
    unfold upd
    split
    · rename_i e; subst e; omega
    · rfl
  refine ⟨⟨h.chain, h.pos, ?_, ?_, ?_, ?_⟩, ?_, hik⟩
  · rw [hne 0 (by rw [h.first]; omega), h.first]
  · intro j; unfold upd; split
    · omega
    · exact h.low j
  · intro j; unfold upd; split
    · omega
    · exact h.high j
  · intro j hj hj0
    by_cases he : j = k
    · subst he
      refine .inr ⟨i, hik, by rw [hne i h0]; exact h0, hf, ?_⟩
      rw [hne i h0]; simp [upd]
    · have e : upd hs k (afterH (nth l i) (hs i)) j = hs j := by simp [upd, he]
      rw [e] at hj0 ⊢
      rcases h.src j hj hj0 with h1 | ⟨i', h1, h2, h3, h4⟩
      · exact .inl h1
      · exact .inr ⟨i', h1, by rw [hne i' h2]; exact h2, h3, by rw [hne i' h2, h4]⟩
  · intro hse j hj hj0
    have e : upd hs k (afterH (nth l i) (hs i)) j = hs j := by simp [upd, show j ≠ k by omega]
    rw [e] at hj0 ⊢
    obtain ⟨h1, h2, h3⟩ := hse j hj hj0
    refine ⟨h1, h2, fun q hq => ?_⟩
    obtain ⟨k', hk', he, hh⟩ := h3 q hq
    exact ⟨k', hk', he, by rw [hne k' (by rw [hh]; unfold afterH; omega), hh]⟩
theorem Settled.more {l : List Ins} {most : Nat} {hs : Nat → Int} {i : Nat} {ks : List Nat} (h : Settled l most hs i) (ht : (takesN (nth l i).op : Int) ≤ hs i) (hm : hs i ≤ most) (hw : WaysOk l i ks) (hd : ∀ k ∈ ks, hs k = afterH (nth l i) (hs i)) : Settled l most hs (i + 1) := by
  intro j hj hj0
  by_cases he : j = i
  · subst he
    refine ⟨ht, hm, fun q hq => ?_⟩
    obtain ⟨k, hk, hp⟩ := hw.all q hq
    exact ⟨k, (hw.only k hk).1, hp, hd k hk⟩
  · exact h j (by omega) hj0
theorem Settled.skip {l : List Ins} {most : Nat} {hs : Nat → Int} {i : Nat} (h : Settled l most hs i) (hn : hs i < 0) : Settled l most hs (i + 1) := by
  intro j hj hj0
  by_cases he : j = i
  · subst he; omega
  · exact h j (by omega) hj0
/-- Where all is settled, another pass changes nothing. -/
theorem Settled.same {s : ByteArray} {l : List Ins} {most : Nat} {hs : Nat → Int} {i k : Nat} (hc : Chain s 3 l s.size) (h : Settled l most hs l.length) (hi : i < l.length) (h0 : 0 ≤ hs i) (hk : k < l.length) (hf : Flows (nth l i) (nth l k).pos) : hs k = afterH (nth l i) (hs i) ∧ 0 ≤ hs k := by
  obtain ⟨h1, _, h3⟩ := h i hi h0
  obtain ⟨k', hk', he, hh⟩ := h3 _ hf
  have := hc.inj k' k hk' hk he
  subst this
  exact ⟨hh, by rw [hh]; unfold afterH; omega⟩
theorem known_start {s : ByteArray} {l : List Ins} {most : Nat} (hc : Chain s 3 l s.size) (h0 : 0 < l.length) : Known s l most (fun j => if j = 0 then 0 else -1) := by
  refine ⟨hc, h0, rfl, ?_, ?_, ?_⟩
  · intro j; by_cases h : j = 0 <;> simp [h]
  · intro j; by_cases h : j = 0 <;> simp [h] <;> omega
  · intro j _ hj
    by_cases h : j = 0
    · exact .inl h
    · simp [h] at hj
end Go.Proofs.YtnnbhebklnappaaGreatDoor

set_option linter.unusedVariables false
set_option linter.unusedSimpArgs false
namespace Go.Proofs.YtnnbhebklnappaaGreatDoor
open Go.RowKit

structure Itm where
  size : Int
  speed : Int
  need : Int
structure Bn where
  id : Int
  zone : Int
  cap : Int
  used : Int
  has : Int
def attrN (k : Int) (x : Itm) (b : Bn) : Int :=
  if k = 0 then x.size else if k = 1 then x.speed else if k = 2 then x.need else if k = 3 then b.zone else if k = 4 then b.cap else if k = 5 then b.used else if k = 6 then b.has else 0
def Itm.Ok (x : Itm) : Prop := (1 ≤ x.size ∧ x.size ≤ 1000) ∧ (0 ≤ x.speed ∧ x.speed ≤ 1000) ∧ (0 ≤ x.need ∧ x.need ≤ 2)
def Bn.Ok (b : Bn) : Prop := (0 ≤ b.id ∧ b.id ≤ 1000) ∧ (0 ≤ b.zone ∧ b.zone ≤ 9) ∧ (1 ≤ b.cap ∧ b.cap ≤ 1000) ∧ (0 ≤ b.used ∧ b.used ≤ b.cap) ∧ (0 ≤ b.has ∧ b.has ≤ 2)

def fst (st : List Int) : Int := st.headD 0
def snd (st : List Int) : Int := (st.drop 1).headD 0
/-- Where an operation jumps. -/
def Ins.to (o : Ins) : Nat := (o.next + o.arg).toNat
/-- A number or a fault, laid. -/
def layM (r : Int × Nat) (p : Nat) (st : List Int) : (Nat × Int) ⊕ (Nat × List Int) := if r.2 = 0 then .inr (p, r.1 :: st) else .inl (2, r.2)
/-- One step: it ends so, or goes on there with that stack (the uppermost number first). -/
def stepM (x : Itm) (b : Bn) (o : Ins) (st : List Int) : (Nat × Int) ⊕ (Nat × List Int) :=
  if o.op = 16 then .inl (1, fst st)
  else if o.op = 17 then .inl (0, 0)
  else if o.op = 0 then .inr (o.next, o.arg :: st)
  else if o.op = 1 then .inr (o.next, attrN o.arg x b :: st)
  else if o.op = 2 then layM (negN (fst st)) o.next (st.drop 1)
  else if o.op = 3 then .inr (o.next, bitN (decide (fst st = 0)) :: st.drop 1)
  else if o.op = 13 then .inr (o.to, st)
  else if o.op = 14 then .inr (if fst st = 0 then o.to else o.next, st.drop 1)
  else if o.op = 15 then .inr (if fst st = 0 then o.next else o.to, st.drop 1)
  else layM (joinN o.op (snd st) (fst st)) o.next (st.drop 2)
/-- The run: the end, the value, the steps. -/
def runM (s : ByteArray) (x : Itm) (b : Bn) : Nat → Nat → List Int → Nat → Nat × Int × Nat
  | 0, _, _, n => (0, 0, n)
  | f + 1, p, st, n => match stepM x b (mkIns s p) st with
    | .inl (k, v) => (k, v, n + 1)
    | .inr (p', st') => runM s x b f p' st' (n + 1)
theorem runM_end {s : ByteArray} {x : Itm} {b : Bn} {f p : Nat} {st : List Int} {n k : Nat} {v : Int} (h : stepM x b (mkIns s p) st = .inl (k, v)) : runM s x b (f + 1) p st n = (k, v, n + 1) := by
  simp [runM, h]
theorem runM_go {s : ByteArray} {x : Itm} {b : Bn} {f p : Nat} {st : List Int} {n p' : Nat} {st' : List Int} (h : stepM x b (mkIns s p) st = .inr (p', st')) : runM s x b (f + 1) p st n = runM s x b f p' st' (n + 1) := by
  simp [runM, h]

/-- At a step of an image's run: an operation begins there, the stack is as high as it should be, all are numbers of 64 bits. -/
structure AtStep (s : ByteArray) (l : List Ins) (most : Nat) (G : Nat → Int) (p : Nat) (st : List Int) : Prop where
  chain : Chain s 3 l s.size
  law : Lawful l most G
  here : mkIns s p ∈ l
  high : G p = st.length
  nums : ∀ v ∈ st, In64 v
theorem AtStep.ok {s : ByteArray} {l : List Ins} {most : Nat} {G : Nat → Int} {p : Nat} {st : List Int} (h : AtStep s l most G p st) : OpOkI s p := (h.chain.mem _ h.here).2.2.1
theorem AtStep.tall {s : ByteArray} {l : List Ins} {most : Nat} {G : Nat → Int} {p : Nat} {st : List Int} (h : AtStep s l most G p st) : takesN (bt s p) ≤ st.length := by
  have := (h.law.2 _ h.here).1
  simp only [mkIns] at this
  rw [h.high] at this
  omega
theorem AtStep.most_le {s : ByteArray} {l : List Ins} {most : Nat} {G : Nat → Int} {p : Nat} {st : List Int} (h : AtStep s l most G p st) : st.length ≤ most := by
  have := (h.law.2 _ h.here).2.1
  simp only [mkIns] at this
  rw [h.high] at this
  omega
theorem AtStep.start {s : ByteArray} {l : List Ins} {most : Nat} {G : Nat → Int} (hc : Chain s 3 l s.size) (hl : Lawful l most G) (h4 : 3 < s.size) : AtStep s l most G 3 [] := by
  refine ⟨hc, hl, ?_, by rw [hl.1]; rfl, by simp⟩
  obtain ⟨o, ho, h1, h2⟩ := hc.cover 3 (Nat.le_refl _) h4
  have hm := hc.mem o ho
  have : o.pos = 3 := by omega
  rw [← this, ← hm.2.2.2]; exact ho
/-- One step of an image's run leads to another. -/
theorem AtStep.next {s : ByteArray} {l : List Ins} {most : Nat} {G : Nat → Int} {p : Nat} {st st' : List Int} {q : Nat} (h : AtStep s l most G p st) (hf : Flows (mkIns s p) q) (hn : (st'.length : Int) = st.length - takesN (bt s p) + laysN (bt s p)) (hi : ∀ v ∈ st', In64 v) : AtStep s l most G q st' ∧ p < q := by
  obtain ⟨⟨o, ho, rfl⟩, h2⟩ := (h.law.2 _ h.here).2.2.1 q hf
  have hm := h.chain.mem o ho
  refine ⟨⟨h.chain, h.law, by rw [← hm.2.2.2]; exact ho, ?_, hi⟩, hf.lt⟩
  rw [h2, hn]
  show G p - takesN (bt s p) + laysN (bt s p) = _
  rw [h.high]
theorem jump_to (s : ByteArray) (p : Nat) (h : (mkIns s p).op = 13 ∨ (mkIns s p).op = 14 ∨ (mkIns s p).op = 15) : ((mkIns s p).to : Int) = (mkIns s p).next + (mkIns s p).arg := by
  have := jump_arg s p h
  unfold Ins.to
  omega
theorem attr_in (k : Int) (x : Itm) (b : Bn) (hx : x.Ok) (hb : b.Ok) : In64 (attrN k x b) := by
  unfold Itm.Ok at hx
  unfold Bn.Ok at hb
  unfold attrN In64
  repeat' split
  all_goals omega
/-- What a step that goes on leads to. -/
theorem AtStep.go {s : ByteArray} {l : List Ins} {most : Nat} {G : Nat → Int} {p : Nat} {st st' : List Int} {q : Nat} {x : Itm} {b : Bn} (h : AtStep s l most G p st) (hx : x.Ok) (hb : b.Ok) (hs : stepM x b (mkIns s p) st = .inr (q, st')) : AtStep s l most G q st' ∧ p < q := by
  have ht := h.tall
  have hok := h.ok
  have hop : (mkIns s p).op = bt s p := rfl
  have hd : ∀ k, ∀ v ∈ st.drop k, In64 v := fun k v hv => h.nums v (List.mem_of_mem_drop hv)
  have hfst : In64 (fst st) := by
    unfold fst
    cases st with
    | nil => decide
    | cons a r => exact h.nums a (by simp)
  have hsnd : In64 (snd st) := by
    unfold snd
    cases hdd : st.drop 1 with
    | nil => decide
    | cons a r => exact hd 1 a (by rw [hdd]; simp)
  have hnx : (bt s p ≠ 13 ∧ bt s p ≠ 16 ∧ bt s p ≠ 17) → Flows (mkIns s p) (mkIns s p).next := fun hh => .inl ⟨hh.1, hh.2.1, hh.2.2, rfl⟩
  have hto : (bt s p = 13 ∨ bt s p = 14 ∨ bt s p = 15) → Flows (mkIns s p) (mkIns s p).to := fun hh => .inr ⟨hh, jump_to s p hh⟩
  have hc17 : bt s p ≤ 17 := hok.2.1
  unfold stepM at hs
  simp only [hop] at hs
  split at hs
  · simp at hs
  split at hs
  · simp at hs
  split at hs
  · rename_i h0
    simp at hs
    obtain ⟨rfl, rfl⟩ := hs
    refine h.next (hnx (by omega)) (by simp [takesN, laysN, h0]) ?_
    intro v hv
    rcases List.mem_cons.1 hv with rfl | hv
    · exact in_wrap _
    · exact h.nums v hv
  split at hs
  · rename_i h0
    simp at hs
    obtain ⟨rfl, rfl⟩ := hs
    refine h.next (hnx (by omega)) (by simp [takesN, laysN, h0]) ?_
    intro v hv
    rcases List.mem_cons.1 hv with rfl | hv
    · exact attr_in _ x b hx hb
    · exact h.nums v hv
  split at hs
  · rename_i h0
    unfold layM at hs
    split at hs
    · simp at hs
      obtain ⟨rfl, rfl⟩ := hs
      rw [h0] at ht
      simp [takesN] at ht
      refine h.next (hnx (by omega)) (by simp [takesN, laysN, h0]; omega) ?_
      intro v hv
      rcases List.mem_cons.1 hv with rfl | hv
      · exact neg_in _
      · exact hd 1 v (by simpa using hv)
    · simp at hs
  split at hs
  · rename_i h0
    simp at hs
    obtain ⟨rfl, rfl⟩ := hs
    rw [h0] at ht
    simp [takesN] at ht
    refine h.next (hnx (by omega)) (by simp [takesN, laysN, h0]; omega) ?_
    intro v hv
    rcases List.mem_cons.1 hv with rfl | hv
    · unfold bitN; split <;> decide
    · exact hd 1 v (by simpa using hv)
  split at hs
  · rename_i h0
    simp at hs
    obtain ⟨rfl, rfl⟩ := hs
    exact h.next (hto (by omega)) (by simp [takesN, laysN, h0]) h.nums
  split at hs
  · rename_i h0
    simp at hs
    obtain ⟨rfl, rfl⟩ := hs
    rw [h0] at ht
    simp [takesN] at ht
    refine h.next ?_ (by simp [takesN, laysN, h0]; omega) (fun v hv => hd 1 v (by simpa using hv))
    split
    · exact hto (by omega)
    · exact hnx (by omega)
  split at hs
  · rename_i h0
    simp at hs
    obtain ⟨rfl, rfl⟩ := hs
    rw [h0] at ht
    simp [takesN] at ht
    refine h.next ?_ (by simp [takesN, laysN, h0]; omega) (fun v hv => hd 1 v (by simpa using hv))
    split
    · exact hnx (by omega)
    · exact hto (by omega)
  · unfold layM at hs
    split at hs
    · simp at hs
      obtain ⟨rfl, rfl⟩ := hs
      have h2 : takesN (bt s p) = 2 := by unfold takesN; rw [if_neg (by omega), if_neg (by omega)]
      have h3 : laysN (bt s p) = 1 := by unfold laysN; rw [if_neg (by omega)]
      rw [h2] at ht
      refine h.next (hnx (by omega)) (by rw [h2, h3]; simp; omega) ?_
      intro v hv
      rcases List.mem_cons.1 hv with rfl | hv
      · exact join_in _ _ _ hsnd hfst
      · exact hd 2 v (by simpa using hv)
    · simp at hs
end Go.Proofs.YtnnbhebklnappaaGreatDoor

set_option linter.unusedVariables false
set_option linter.unusedSimpArgs false
namespace Go.Proofs.YtnnbhebklnappaaGreatDoor
open Go.RowKit

/-- These bytes stand at a place. -/
def Sits (s : ByteArray) (p : Nat) (c : List Nat) : Prop := ∀ i b, c[i]? = some b → p + i < s.size ∧ bt s (p + i) = b
theorem Sits.left {s : ByteArray} {p : Nat} {c d : List Nat} (h : Sits s p (c ++ d)) : Sits s p c := fun i b hi => h i b (by
  have hlt := (List.getElem?_eq_some_iff.1 hi).1
  rw [List.getElem?_append_left hlt]; exact hi)
theorem Sits.right {s : ByteArray} {p : Nat} {c d : List Nat} (h : Sits s p (c ++ d)) : Sits s (p + c.length) d := fun i b hi => by
  have := h (c.length + i) b (by rw [List.getElem?_append_right (by omega), show c.length + i - c.length = i by omega]; exact hi)
  rw [← Nat.add_assoc] at this
  exact this
/-- What a block does from its place, whatever lies on the stack: it lays its number; or it faults; in so many steps. -/
def DoesSo (s : ByteArray) (x : Itm) (y : Bn) (p q : Nat) (v : Int) (flt steps : Nat) : Prop :=
  (flt = 0 ∧ ∀ f st n, runM s x y (f + steps) p st n = runM s x y f q (v :: st) (n + steps)) ∨
  (flt ≠ 0 ∧ ∀ f st n, steps ≤ f → runM s x y f p st n = (2, (flt : Int), n + steps))
theorem does_one {s : ByteArray} {x : Itm} {y : Bn} {p q : Nat} {v : Int} (h : ∀ st, stepM x y (mkIns s p) st = .inr (q, v :: st)) : DoesSo s x y p q v 0 1 :=
  Or.inl ⟨rfl, fun f st n => by rw [runM_go (h st)]⟩
/-- A fault ahead is the whole one's. -/
theorem DoesSo.fault {s : ByteArray} {x : Itm} {y : Bn} {p q q' : Nat} {v v' : Int} {flt steps : Nat} (h : DoesSo s x y p q v flt steps) (hf : flt ≠ 0) : DoesSo s x y p q' v' flt steps := by
  rcases h with ⟨h0, _⟩ | h
  · exact absurd h0 hf
  · exact Or.inr h
/-- An operation of one number behind a block. -/
theorem DoesSo.unary {s : ByteArray} {x : Itm} {y : Bn} {p q r : Nat} {a v : Int} {f1 k : Nat} (h : DoesSo s x y p q a 0 k) (hop : ∀ st, stepM x y (mkIns s q) (a :: st) = layM (v, f1) r st) : DoesSo s x y p r v f1 (k + 1) := by
  rcases h with ⟨_, h⟩ | ⟨h0, _⟩
  · by_cases hf : f1 = 0
    · subst hf
      refine Or.inl ⟨rfl, fun f st n => ?_⟩
      rw [show f + (k + 1) = (f + 1) + k by omega, h (f + 1) st n, runM_go (hop st), Nat.add_assoc]
    · refine Or.inr ⟨hf, fun f st n hle => ?_⟩
      obtain ⟨f', rfl⟩ : ∃ f', f = (f' + 1) + k := ⟨f - k - 1, by omega⟩
      rw [h (f' + 1) st n]
      have : stepM x y (mkIns s q) (a :: st) = .inl (2, (f1 : Int)) := by rw [hop st]; unfold layM; simp only [hf, if_false]
      rw [runM_end this, Nat.add_assoc]
  · exact absurd rfl h0
/-- Two blocks and an operation of two numbers behind them. -/
theorem DoesSo.binary {s : ByteArray} {x : Itm} {y : Bn} {p q r e : Nat} {a b v : Int} {f1 k m : Nat} (h1 : DoesSo s x y p q a 0 k) (h2 : DoesSo s x y q r b 0 m) (hop : ∀ st, stepM x y (mkIns s r) (b :: a :: st) = layM (v, f1) e st) : DoesSo s x y p e v f1 (k + m + 1) := by
  rcases h1 with ⟨_, h1⟩ | ⟨h0, _⟩
  · rcases h2 with ⟨_, h2⟩ | ⟨h0, _⟩
    · by_cases hf : f1 = 0
      · subst hf
        refine Or.inl ⟨rfl, fun f st n => ?_⟩
        rw [show f + (k + m + 1) = ((f + 1) + m) + k by omega, h1, h2, runM_go (hop st)]
        congr 1
        omega
      · refine Or.inr ⟨hf, fun f st n hle => ?_⟩
        obtain ⟨f', rfl⟩ : ∃ f', f = ((f' + 1) + m) + k := ⟨f - k - m - 1, by omega⟩
        have : stepM x y (mkIns s r) (b :: a :: st) = .inl (2, (f1 : Int)) := by rw [hop st]; unfold layM; simp only [hf, if_false]
        rw [h1, h2, runM_end this]
        simp only [Nat.add_assoc]
    · exact absurd rfl h0
  · exact absurd rfl h0
/-- The second of two blocks faults. -/
theorem DoesSo.second {s : ByteArray} {x : Itm} {y : Bn} {p q r e : Nat} {a b v : Int} {f2 k m : Nat} (h1 : DoesSo s x y p q a 0 k) (h2 : DoesSo s x y q r b f2 m) (hf : f2 ≠ 0) : DoesSo s x y p e v f2 (k + m) := by
  rcases h1 with ⟨_, h1⟩ | ⟨h0, _⟩
  · rcases h2 with ⟨h0, _⟩ | ⟨_, h2⟩
    · exact absurd h0 hf
    · refine Or.inr ⟨hf, fun f st n hle => ?_⟩
      obtain ⟨f', rfl⟩ : ∃ f', f = f' + k := ⟨f - k, by omega⟩
      rw [h1, h2 f' (a :: st) (n + k) (by omega), Nat.add_assoc]
  · exact absurd rfl h0
/-- A choice that goes to a block (the one behind, which then leaves out the other; or the other). -/
theorem DoesSo.goTo {s : ByteArray} {x : Itm} {y : Bn} {p q t e : Nat} {a v : Int} {f2 k m : Nat} (h1 : DoesSo s x y p q a 0 k) (hop : ∀ st, stepM x y (mkIns s q) (a :: st) = .inr (t, st)) (h2 : DoesSo s x y t e v f2 m) : DoesSo s x y p e v f2 (k + 1 + m) := by
  rcases h1 with ⟨_, h1⟩ | ⟨h0, _⟩
  · rcases h2 with ⟨h0, h2⟩ | ⟨hf, h2⟩
    · subst h0
      refine Or.inl ⟨rfl, fun f st n => ?_⟩
      rw [show f + (k + 1 + m) = ((f + m) + 1) + k by omega, h1, runM_go (hop st), h2]
      congr 1
      omega
    · refine Or.inr ⟨hf, fun f st n hle => ?_⟩
      obtain ⟨f', rfl⟩ : ∃ f', f = (f' + 1) + k := ⟨f - k - 1, by omega⟩
      rw [h1, runM_go (hop st), h2 f' st (n + k + 1) (by omega)]
      simp only [Nat.add_assoc]
  · exact absurd rfl h0
/-- A block with a Jump behind it. -/
theorem DoesSo.over {s : ByteArray} {x : Itm} {y : Bn} {p q e : Nat} {v : Int} {k : Nat} (h : DoesSo s x y p q v 0 k) (hop : ∀ st, stepM x y (mkIns s q) st = .inr (e, st)) : DoesSo s x y p e v 0 (k + 1) := by
  rcases h with ⟨_, h⟩ | ⟨h0, _⟩
  · refine Or.inl ⟨rfl, fun f st n => ?_⟩
    rw [show f + (k + 1) = (f + 1) + k by omega, h, runM_go (hop (v :: st)), Nat.add_assoc]
  · exact absurd rfl h0
end Go.Proofs.YtnnbhebklnappaaGreatDoor
