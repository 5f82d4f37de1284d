/-
  What the operations of an image do, step by step: plain; and that within an image the stack is never too low.
-/
import Derived.Test.YtkbbdfeobcklhaaGreatDoorImg
import Derived.Test.YtkbbdfeobcklhaaGreatDoorNum
import Derived.Test.YtkbbdfeobcklhaaGreatDoorImgR
set_option linter.unusedVariables false
set_option linter.unusedSimpArgs false
namespace Go.Proofs.YtkbbdfeobcklhaaGreatDoor
open Go.RowKit

structure Itm where
  size : Int
  speed : Int
  need : Int
structure Bn where
  id : Int
  zone : Int
  cap : Int
  used : Int
  has : Int
def attrN (k : Int) (x : Itm) (b : Bn) : Int :=
  if k = 0 then x.size else if k = 1 then x.speed else if k = 2 then x.need else if k = 3 then b.zone else if k = 4 then b.cap else if k = 5 then b.used else if k = 6 then b.has else 0
def Itm.Ok (x : Itm) : Prop := (1 ≤ x.size ∧ x.size ≤ 1000) ∧ (0 ≤ x.speed ∧ x.speed ≤ 1000) ∧ (0 ≤ x.need ∧ x.need ≤ 2)
def Bn.Ok (b : Bn) : Prop := (0 ≤ b.id ∧ b.id ≤ 1000) ∧ (0 ≤ b.zone ∧ b.zone ≤ 9) ∧ (1 ≤ b.cap ∧ b.cap ≤ 1000) ∧ (0 ≤ b.used ∧ b.used ≤ b.cap) ∧ (0 ≤ b.has ∧ b.has ≤ 2)

def fst (st : List Int) : Int := st.headD 0
def snd (st : List Int) : Int := (st.drop 1).headD 0
/-- Where an operation jumps. -/
def Ins.to (o : Ins) : Nat := (o.next + o.arg).toNat
/-- A number or a fault, laid. -/
def layM (r : Int × Nat) (p : Nat) (st : List Int) : (Nat × Int) ⊕ (Nat × List Int) := if r.2 = 0 then .inr (p, r.1 :: st) else .inl (2, r.2)
/-- One step: it ends so, or goes on there with that stack (the uppermost number first). -/
def stepM (x : Itm) (b : Bn) (o : Ins) (st : List Int) : (Nat × Int) ⊕ (Nat × List Int) :=
  if o.op = 16 then .inl (1, fst st)
  else if o.op = 17 then .inl (0, 0)
  else if o.op = 0 then .inr (o.next, o.arg :: st)
  else if o.op = 1 then .inr (o.next, attrN o.arg x b :: st)
  else if o.op = 2 then layM (negN (fst st)) o.next (st.drop 1)
  else if o.op = 3 then .inr (o.next, bitN (decide (fst st = 0)) :: st.drop 1)
  else if o.op = 13 then .inr (o.to, st)
  else if o.op = 14 then .inr (if fst st = 0 then o.to else o.next, st.drop 1)
  else if o.op = 15 then .inr (if fst st = 0 then o.next else o.to, st.drop 1)
  else layM (joinN o.op (snd st) (fst st)) o.next (st.drop 2)
/-- The run: the end, the value, the steps. -/
def runM (s : ByteArray) (x : Itm) (b : Bn) : Nat → Nat → List Int → Nat → Nat × Int × Nat
  | 0, _, _, n => (0, 0, n)
  | f + 1, p, st, n => match stepM x b (mkIns s p) st with
    | .inl (k, v) => (k, v, n + 1)
    | .inr (p', st') => runM s x b f p' st' (n + 1)
theorem runM_end {s : ByteArray} {x : Itm} {b : Bn} {f p : Nat} {st : List Int} {n k : Nat} {v : Int} (h : stepM x b (mkIns s p) st = .inl (k, v)) : runM s x b (f + 1) p st n = (k, v, n + 1) := by
  simp [runM, h]
theorem runM_go {s : ByteArray} {x : Itm} {b : Bn} {f p : Nat} {st : List Int} {n p' : Nat} {st' : List Int} (h : stepM x b (mkIns s p) st = .inr (p', st')) : runM s x b (f + 1) p st n = runM s x b f p' st' (n + 1) := by
  simp [runM, h]

/-- At a step of an image's run: an operation begins there, the stack is as high as it should be, all are numbers of 64 bits. -/
structure AtStep (s : ByteArray) (l : List Ins) (most : Nat) (G : Nat → Int) (p : Nat) (st : List Int) : Prop where
  chain : Chain s 3 l s.size
  law : Lawful l most G
  here : mkIns s p ∈ l
  high : G p = st.length
  nums : ∀ v ∈ st, In64 v
theorem AtStep.ok {s : ByteArray} {l : List Ins} {most : Nat} {G : Nat → Int} {p : Nat} {st : List Int} (h : AtStep s l most G p st) : OpOkI s p := (h.chain.mem _ h.here).2.2.1
theorem AtStep.tall {s : ByteArray} {l : List Ins} {most : Nat} {G : Nat → Int} {p : Nat} {st : List Int} (h : AtStep s l most G p st) : takesN (bt s p) ≤ st.length := by
  have := (h.law.2 _ h.here).1
  simp only [mkIns] at this
  rw [h.high] at this
  omega
theorem AtStep.most_le {s : ByteArray} {l : List Ins} {most : Nat} {G : Nat → Int} {p : Nat} {st : List Int} (h : AtStep s l most G p st) : st.length ≤ most := by
  have := (h.law.2 _ h.here).2.1
  simp only [mkIns] at this
  rw [h.high] at this
  omega
theorem AtStep.start {s : ByteArray} {l : List Ins} {most : Nat} {G : Nat → Int} (hc : Chain s 3 l s.size) (hl : Lawful l most G) (h4 : 3 < s.size) : AtStep s l most G 3 [] := by
  refine ⟨hc, hl, ?_, by rw [hl.1]; rfl, by simp⟩
  obtain ⟨o, ho, h1, h2⟩ := hc.cover 3 (Nat.le_refl _) h4
  have hm := hc.mem o ho
  have : o.pos = 3 := by omega
  rw [← this, ← hm.2.2.2]; exact ho
/-- One step of an image's run leads to another. -/
theorem AtStep.next {s : ByteArray} {l : List Ins} {most : Nat} {G : Nat → Int} {p : Nat} {st st' : List Int} {q : Nat} (h : AtStep s l most G p st) (hf : Flows (mkIns s p) q) (hn : (st'.length : Int) = st.length - takesN (bt s p) + laysN (bt s p)) (hi : ∀ v ∈ st', In64 v) : AtStep s l most G q st' ∧ p < q := by
  obtain ⟨⟨o, ho, rfl⟩, h2⟩ := (h.law.2 _ h.here).2.2.1 q hf
  have hm := h.chain.mem o ho
  refine ⟨⟨h.chain, h.law, by rw [← hm.2.2.2]; exact ho, ?_, hi⟩, hf.lt⟩
  rw [h2, hn]
  show G p - takesN (bt s p) + laysN (bt s p) = _
  rw [h.high]
theorem jump_to (s : ByteArray) (p : Nat) (h : (mkIns s p).op = 13 ∨ (mkIns s p).op = 14 ∨ (mkIns s p).op = 15) : ((mkIns s p).to : Int) = (mkIns s p).next + (mkIns s p).arg := by
  have := jump_arg s p h
  unfold Ins.to
  omega
theorem attr_in (k : Int) (x : Itm) (b : Bn) (hx : x.Ok) (hb : b.Ok) : In64 (attrN k x b) := by
  unfold Itm.Ok at hx
  unfold Bn.Ok at hb
  unfold attrN In64
  repeat' split
  all_goals omega
/-- What a step that goes on leads to. -/
theorem AtStep.go {s : ByteArray} {l : List Ins} {most : Nat} {G : Nat → Int} {p : Nat} {st st' : List Int} {q : Nat} {x : Itm} {b : Bn} (h : AtStep s l most G p st) (hx : x.Ok) (hb : b.Ok) (hs : stepM x b (mkIns s p) st = .inr (q, st')) : AtStep s l most G q st' ∧ p < q := by
  have ht := h.tall
  have hok := h.ok
  have hop : (mkIns s p).op = bt s p := rfl
  have hd : ∀ k, ∀ v ∈ st.drop k, In64 v := fun k v hv => h.nums v (List.mem_of_mem_drop hv)
  have hfst : In64 (fst st) := by
    unfold fst
    cases st with
    | nil => decide
    | cons a r => exact h.nums a (by simp)
  have hsnd : In64 (snd st) := by
    unfold snd
    cases hdd : st.drop 1 with
    | nil => decide
    | cons a r => exact hd 1 a (by rw [hdd]; simp)
  have hnx : (bt s p ≠ 13 ∧ bt s p ≠ 16 ∧ bt s p ≠ 17) → Flows (mkIns s p) (mkIns s p).next := fun hh => .inl ⟨hh.1, hh.2.1, hh.2.2, rfl⟩
  have hto : (bt s p = 13 ∨ bt s p = 14 ∨ bt s p = 15) → Flows (mkIns s p) (mkIns s p).to := fun hh => .inr ⟨hh, jump_to s p hh⟩
  have hc17 : bt s p ≤ 17 := hok.2.1
  unfold stepM at hs
  simp only [hop] at hs
  split at hs
  · simp at hs
  split at hs
  · simp at hs
  split at hs
  · rename_i h0
    simp at hs
    obtain ⟨rfl, rfl⟩ := hs
    refine h.next (hnx (by omega)) (by simp [takesN, laysN, h0]) ?_
    intro v hv
    rcases List.mem_cons.1 hv with rfl | hv
    · exact in_wrap _
    · exact h.nums v hv
  split at hs
  · rename_i h0
    simp at hs
    obtain ⟨rfl, rfl⟩ := hs
    refine h.next (hnx (by omega)) (by simp [takesN, laysN, h0]) ?_
    intro v hv
    rcases List.mem_cons.1 hv with rfl | hv
    · exact attr_in _ x b hx hb
    · exact h.nums v hv
  split at hs
  · rename_i h0
    unfold layM at hs
    split at hs
    · simp at hs
      obtain ⟨rfl, rfl⟩ := hs
      rw [h0] at ht
      simp [takesN] at ht
      refine h.next (hnx (by omega)) (by simp [takesN, laysN, h0]; omega) ?_
      intro v hv
      rcases List.mem_cons.1 hv with rfl | hv
      · exact neg_in _
      · exact hd 1 v (by simpa using hv)
    · simp at hs
  split at hs
  · rename_i h0
    simp at hs
    obtain ⟨rfl, rfl⟩ := hs
    rw [h0] at ht
    simp [takesN] at ht
    refine h.next (hnx (by omega)) (by simp [takesN, laysN, h0]; omega) ?_
    intro v hv
    rcases List.mem_cons.1 hv with rfl | hv
    · unfold bitN; split <;> decide
    · exact hd 1 v (by simpa using hv)
  split at hs
  · rename_i h0
    simp at hs
    obtain ⟨rfl, rfl⟩ := hs
    exact h.next (hto (by omega)) (by simp [takesN, laysN, h0]) h.nums
  split at hs
  · rename_i h0
    simp at hs
    obtain ⟨rfl, rfl⟩ := hs
    rw [h0] at ht
    simp [takesN] at ht
    refine h.next ?_ (by simp [takesN, laysN, h0]; omega) (fun v hv => hd 1 v (by simpa using hv))
    split
    · exact hto (by omega)
    · exact hnx (by omega)
  split at hs
  · rename_i h0
    simp at hs
    obtain ⟨rfl, rfl⟩ := hs
    rw [h0] at ht
    simp [takesN] at ht
    refine h.next ?_ (by simp [takesN, laysN, h0]; omega) (fun v hv => hd 1 v (by simpa using hv))
    split
    · exact hnx (by omega)
    · exact hto (by omega)
  · unfold layM at hs
    split at hs
    · simp at hs
      obtain ⟨rfl, rfl⟩ := hs
      have h2 : takesN (bt s p) = 2 := by unfold takesN; rw [if_neg (by omega), if_neg (by omega)]
      have h3 : laysN (bt s p) = 1 := by unfold laysN; rw [if_neg (by omega)]
      rw [h2] at ht
      refine h.next (hnx (by omega)) (by rw [h2, h3]; simp; omega) ?_
      intro v hv
      rcases List.mem_cons.1 hv with rfl | hv
      · exact join_in _ _ _ hsnd hfst
      · exact hd 2 v (by simpa using hv)
    · simp at hs
end Go.Proofs.YtkbbdfeobcklhaaGreatDoor
