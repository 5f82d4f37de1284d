/-
  Images: the heights by the numbers of the operations: what holds while they are worked out, pass by pass.
  What the document's small functions on operations do, called in any world: behindOp, takes, lays, low, index.
-/
import Derived.Test.YtkbbdfeobcklhaaGreatDoorX48
import Derived.Test.YtkbbdfeobcklhaaGreatDoorProg
import Derived.Test.YtkbbdfeobcklhaaGreatDoorX00
import Derived.WalkLawsBesides
import Derived.Deep.QuietTactic
import Derived.BigQuiet
import Derived.Deep.Light
set_option linter.unusedVariables false
set_option linter.unusedSimpArgs false
namespace Go.Proofs.YtkbbdfeobcklhaaGreatDoor
open Go.RowKit

/-- The height behind an operation that has that one. -/
def afterH (o : Ins) (h : Int) : Int := h - takesN o.op + laysN o.op
def nth (l : List Ins) (i : Nat) : Ins := l[i]?.getD ⟨0, 0, 0, 0⟩
theorem nth_get (l : List Ins) (i : Nat) (h : i < l.length) : nth l i = l[i] := by simp [nth, h]
theorem nth_mem (l : List Ins) (i : Nat) (h : i < l.length) : nth l i ∈ l := by rw [nth_get l i h]; exact List.getElem_mem h
theorem Chain.sorted {s : ByteArray} : ∀ {l : List Ins} {p q : Nat}, Chain s p l q → ∀ i j, i < j → j < l.length → (nth l i).pos < (nth l j).pos
  | [], _, _, _, i, j, _, h => by simp at h
  | a :: r, p, q, h, i, j, hij, hj => by
    obtain ⟨h1, rfl, h3⟩ := h
    cases j with
    | zero => omega
    | succ j =>
      have hj' : j < r.length := by simpa using hj
      have hn : nth (mkIns s p :: r) (j + 1) = nth r j := by simp [nth]
      rw [hn]
      cases i with
      | zero =>
        have := (Chain.mem h3 (nth r j) (nth_mem r j hj')).1
        have h4 := next_pos s p
        have h5 : (nth (mkIns s p :: r) 0).pos = p := by simp [nth, mkIns]
        omega
      | succ i =>
        have hi : nth (mkIns s p :: r) (i + 1) = nth r i := by simp [nth]
        rw [hi]
        exact Chain.sorted h3 i j (by omega) hj'
theorem Chain.inj {s : ByteArray} {l : List Ins} {p q : Nat} (h : Chain s p l q) (i j : Nat) (hi : i < l.length) (hj : j < l.length) (he : (nth l i).pos = (nth l j).pos) : i = j := by
  rcases Nat.lt_trichotomy i j with h1 | h1 | h1
  · have := h.sorted i j h1 hj; omega
  · exact h1
  · have := h.sorted j i h1 hi; omega
theorem mem_nth (l : List Ins) (o : Ins) (h : o ∈ l) : ∃ i, i < l.length ∧ nth l i = o := by
  obtain ⟨i, hi, he⟩ := List.getElem_of_mem h
  exact ⟨i, hi, by rw [nth_get l i hi, he]⟩
theorem Chain.zero {s : ByteArray} {l : List Ins} {p q : Nat} (h : Chain s p l q) (h0 : 0 < l.length) : (nth l 0).pos = p := by
  cases l with
  | nil => simp at h0
  | cons a r => obtain ⟨_, rfl, _⟩ := h; simp [nth, mkIns]

/-- The heights so far: each is the first one's, or comes from one ahead of it. -/
structure Known (s : ByteArray) (l : List Ins) (most : Nat) (hs : Nat → Int) : Prop where
  chain : Chain s 3 l s.size
  pos : 0 < l.length
  first : hs 0 = 0
  low : ∀ j, -1 ≤ hs j
  high : ∀ j, hs j ≤ most + 1
  src : ∀ j, j < l.length → 0 ≤ hs j → j = 0 ∨ ∃ i, i < j ∧ 0 ≤ hs i ∧ Flows (nth l i) (nth l j).pos ∧ hs j = afterH (nth l i) (hs i)
/-- The operations ahead of a number have handed theirs on. -/
def Settled (l : List Ins) (most : Nat) (hs : Nat → Int) (i : Nat) : Prop :=
  ∀ j, j < i → 0 ≤ hs j → (takesN (nth l j).op : Int) ≤ hs j ∧ hs j ≤ most ∧ ∀ q, Flows (nth l j) q → ∃ k, k < l.length ∧ (nth l k).pos = q ∧ hs k = afterH (nth l j) (hs j)
/-- The numbers of the operations that one goes on to. -/
structure WaysOk (l : List Ins) (i : Nat) (ks : List Nat) : Prop where
  all : ∀ q, Flows (nth l i) q → ∃ k ∈ ks, (nth l k).pos = q
  only : ∀ k ∈ ks, k < l.length ∧ Flows (nth l i) (nth l k).pos
  short : ks.length ≤ 2

theorem Known.agree {s : ByteArray} {l : List Ins} {most : Nat} {hs G : Nat → Int} (h : Known s l most hs) (hl : Lawful l most G) :
    ∀ n j, j < n → j < l.length → 0 ≤ hs j → hs j = G (nth l j).pos := by
  intro n
  induction n with
  | zero => intro j hj; omega
  | succ n ih =>
    intro j hj hjl h0
    rcases h.src j hjl h0 with rfl | ⟨i, hij, hi0, hf, he⟩
    · rw [h.first, h.chain.zero h.pos, hl.1]
    · have h1 := ih i (by omega) (by omega) hi0
      have h2 := ((hl.2 _ (nth_mem l i (by omega))).2.2.1 _ hf).2
      rw [he, h2, ← h1]; rfl
theorem Known.bad_way {s : ByteArray} {l : List Ins} {most : Nat} {hs : Nat → Int} {i q : Nat} (h : Known s l most hs) (hi : i < l.length) (hf : Flows (nth l i) q) (hb : ∀ k, k < l.length → (nth l k).pos ≠ q) : ∀ G, ¬ Lawful l most G := by
  intro G hl
  obtain ⟨o, ho, he⟩ := ((hl.2 _ (nth_mem l i hi)).2.2.1 _ hf).1
  obtain ⟨k, hk, rfl⟩ := mem_nth l o ho
  exact hb k hk he
theorem Known.bad_high {s : ByteArray} {l : List Ins} {most : Nat} {hs : Nat → Int} {i : Nat} (h : Known s l most hs) (hi : i < l.length) (h0 : 0 ≤ hs i) (hb : hs i < takesN (nth l i).op ∨ (most : Int) < hs i) : ∀ G, ¬ Lawful l most G := by
  intro G hl
  have h1 := h.agree hl (i + 1) i (by omega) hi h0
  obtain ⟨h2, h3, _⟩ := hl.2 _ (nth_mem l i hi)
  omega
theorem Known.bad_two {s : ByteArray} {l : List Ins} {most : Nat} {hs : Nat → Int} {i k : Nat} (h : Known s l most hs) (hi : i < l.length) (h0 : 0 ≤ hs i) (hk : k < l.length) (hf : Flows (nth l i) (nth l k).pos) (hk0 : 0 ≤ hs k) (hb : hs k ≠ afterH (nth l i) (hs i)) : ∀ G, ¬ Lawful l most G := by
  intro G hl
  have h1 := h.agree hl (i + 1) i (by omega) hi h0
  have h2 := h.agree hl (k + 1) k (by omega) hk hk0
  have h3 := ((hl.2 _ (nth_mem l i hi)).2.2.1 _ hf).2
  rw [← h1, ← h2] at h3
  exact hb h3
theorem Known.bad_none {s : ByteArray} {l : List Ins} {most : Nat} {hs : Nat → Int} (h : Known s l most hs) (hse : Settled l most hs l.length) {i : Nat} (hi : i < l.length) (hb : hs i < 0) : ∀ G, ¬ Lawful l most G := by
  intro G hl
  have : ∀ n j, j < n → j < l.length → 0 ≤ hs j := by
    intro n
    induction n with
    | zero => intro j hj; omega
    | succ n ih =>
      intro j hj hjl
      rcases (hl.2 _ (nth_mem l j hjl)).2.2.2 with h1 | ⟨o, ho, hf⟩
      · have : j = 0 := h.chain.inj j 0 hjl h.pos (by rw [h1, h.chain.zero h.pos])
        subst this
        rw [h.first]; omega
      · obtain ⟨k, hk, rfl⟩ := mem_nth l o ho
        have hkj : k < j := by
          have hm := (h.chain.mem _ (nth_mem l k hk)).2.2.2
          have hf' := hf
          rw [hm] at hf'
          have hlt := hf'.lt
          rcases Nat.lt_trichotomy k j with h1 | h1 | h1
          · exact h1
          · subst h1; omega
          · have := h.chain.sorted j k h1 hk; omega
        have hk0 := ih k (by omega) hk
        obtain ⟨h2, h3, h4⟩ := hse k hk hk0
        obtain ⟨k2, hk2, he, hh⟩ := h4 _ hf
        have := h.chain.inj k2 j hk2 hjl he
        subst this
        rw [hh]; unfold afterH; omega
  have := this (i + 1) i (by omega) hi
  omega
/-- All is settled, all have one: they are the heights of an image. -/
theorem Known.lawful {s : ByteArray} {l : List Ins} {most : Nat} {hs : Nat → Int} (h : Known s l most hs) (hse : Settled l most hs l.length) (hall : ∀ i, i < l.length → 0 ≤ hs i) : ∃ G, Lawful l most G := by
  let idx : Nat → Nat := fun q => (List.range l.length).find? (fun i => (nth l i).pos == q) |>.getD 0
  have hidx : ∀ i, i < l.length → idx (nth l i).pos = i := by
    intro i hi
    show ((List.range l.length).find? _).getD 0 = i
    cases hf : (List.range l.length).find? (fun j => (nth l j).pos == (nth l i).pos) with
    | none =>
      have := List.find?_eq_none.1 hf i (by simpa using hi)
      simp at this
    | some j =>
      have h1 := List.find?_some hf
      have h2 := List.mem_of_find?_eq_some hf
      simp at h1 h2
      simpa using h.chain.inj j i h2 hi h1
  refine ⟨fun q => hs (idx q), ?_, ?_⟩
  · have := hidx 0 h.pos
    rw [h.chain.zero h.pos] at this
    show hs (idx 3) = 0
    rw [this, h.first]
  · intro o ho
    obtain ⟨i, hi, rfl⟩ := mem_nth l o ho
    obtain ⟨h1, h2, h3⟩ := hse i hi (hall i hi)
    show _ ≤ hs (idx _) ∧ hs (idx _) ≤ _ ∧ (∀ q, _ → _ ∧ hs (idx q) = hs (idx _) - _ + _) ∧ _
    rw [hidx i hi]
    refine ⟨h1, h2, fun q hq => ?_, ?_⟩
    · obtain ⟨k, hk, rfl, hh⟩ := h3 q hq
      exact ⟨⟨_, nth_mem l k hk, rfl⟩, by rw [hidx k hk, hh]; rfl⟩
    · rcases h.src i hi (hall i hi) with rfl | ⟨j, hj, _, hf, _⟩
      · exact .inl (h.chain.zero h.pos)
      · exact .inr ⟨_, nth_mem l j (by omega), hf⟩
/-- One height more. -/
def upd (hs : Nat → Int) (k : Nat) (v : Int) : Nat → Int := fun j => if j = k then v else hs j
theorem Known.put {s : ByteArray} {l : List Ins} {most : Nat} {hs : Nat → Int} {i k : Nat} (h : Known s l most hs) (hi : i < l.length) (h0 : 0 ≤ hs i) (ht : (takesN (nth l i).op : Int) ≤ hs i) (hm : hs i ≤ most) (hk : k < l.length) (hf : Flows (nth l i) (nth l k).pos) (hk0 : hs k < 0) :
    Known s l most (upd hs k (afterH (nth l i) (hs i))) ∧ (Settled l most hs i → Settled l most (upd hs k (afterH (nth l i) (hs i))) i) ∧ i < k := by
  have hik : i < k := by
    have hmm := (h.chain.mem _ (nth_mem l i hi)).2.2.2
    have hf' := hf
    rw [hmm] at hf'
    have hlt := hf'.lt
    rcases Nat.lt_trichotomy i k with h1 | h1 | h1
    · exact h1
    · subst h1; omega
    · have := h.chain.sorted k i h1 hi; omega
  have ha : 0 ≤ afterH (nth l i) (hs i) := by unfold afterH; omega
  have ha2 : afterH (nth l i) (hs i) ≤ most + 1 := by unfold afterH laysN; split <;> omega
  have hne : ∀ j, 0 ≤ hs j → upd hs k (afterH (nth l i) (hs i)) j = hs j := by
    intro j hj
    unfold upd
    split
    · rename_i e; subst e; omega
    · rfl
  refine ⟨⟨h.chain, h.pos, ?_, ?_, ?_, ?_⟩, ?_, hik⟩
  · rw [hne 0 (by rw [h.first]; omega), h.first]
  · intro j; unfold upd; split
    · omega
    · exact h.low j
  · intro j; unfold upd; split
    · omega
    · exact h.high j
  · intro j hj hj0
    by_cases he : j = k
    · subst he
      refine .inr ⟨i, hik, by rw [hne i h0]; exact h0, hf, ?_⟩
      rw [hne i h0]; simp [upd]
    · have e : upd hs k (afterH (nth l i) (hs i)) j = hs j := by simp [upd, he]
      rw [e] at hj0 ⊢
      rcases h.src j hj hj0 with h1 | ⟨i', h1, h2, h3, h4⟩
      · exact .inl h1
      · exact .inr ⟨i', h1, by rw [hne i' h2]; exact h2, h3, by rw [hne i' h2, h4]⟩
  · intro hse j hj hj0
    have e : upd hs k (afterH (nth l i) (hs i)) j = hs j := by simp [upd, show j ≠ k by omega]
    rw [e] at hj0 ⊢
    obtain ⟨h1, h2, h3⟩ := hse j hj hj0
    refine ⟨h1, h2, fun q hq => ?_⟩
    obtain ⟨k', hk', he, hh⟩ := h3 q hq
    exact ⟨k', hk', he, by rw [hne k' (by rw [hh]; unfold afterH; omega), hh]⟩
theorem Settled.more {l : List Ins} {most : Nat} {hs : Nat → Int} {i : Nat} {ks : List Nat} (h : Settled l most hs i) (ht : (takesN (nth l i).op : Int) ≤ hs i) (hm : hs i ≤ most) (hw : WaysOk l i ks) (hd : ∀ k ∈ ks, hs k = afterH (nth l i) (hs i)) : Settled l most hs (i + 1) := by
  intro j hj hj0
  by_cases he : j = i
  · subst he
    refine ⟨ht, hm, fun q hq => ?_⟩
    obtain ⟨k, hk, hp⟩ := hw.all q hq
    exact ⟨k, (hw.only k hk).1, hp, hd k hk⟩
  · exact h j (by omega) hj0
theorem Settled.skip {l : List Ins} {most : Nat} {hs : Nat → Int} {i : Nat} (h : Settled l most hs i) (hn : hs i < 0) : Settled l most hs (i + 1) := by
  intro j hj hj0
  by_cases he : j = i
  · subst he; omega
  · exact h j (by omega) hj0
/-- Where all is settled, another pass changes nothing. -/
theorem Settled.same {s : ByteArray} {l : List Ins} {most : Nat} {hs : Nat → Int} {i k : Nat} (hc : Chain s 3 l s.size) (h : Settled l most hs l.length) (hi : i < l.length) (h0 : 0 ≤ hs i) (hk : k < l.length) (hf : Flows (nth l i) (nth l k).pos) : hs k = afterH (nth l i) (hs i) ∧ 0 ≤ hs k := by
  obtain ⟨h1, _, h3⟩ := h i hi h0
  obtain ⟨k', hk', he, hh⟩ := h3 _ hf
  have := hc.inj k' k hk' hk he
  subst this
  exact ⟨hh, by rw [hh]; unfold afterH; omega⟩
theorem known_start {s : ByteArray} {l : List Ins} {most : Nat} (hc : Chain s 3 l s.size) (h0 : 0 < l.length) : Known s l most (fun j => if j = 0 then 0 else -1) := by
  refine ⟨hc, h0, rfl, ?_, ?_, ?_⟩
  · intro j; by_cases h : j = 0 <;> simp [h]
  · intro j; by_cases h : j = 0 <;> simp [h] <;> omega
  · intro j _ hj
    by_cases h : j = 0
    · exact .inl h
    · simp [h] at hj
end Go.Proofs.YtkbbdfeobcklhaaGreatDoor

set_option linter.unusedVariables false
set_option linter.unusedSimpArgs false
namespace Go.Proofs.YtkbbdfeobcklhaaGreatDoor
open Go.RowKit

set_option maxHeartbeats 400000 in
theorem behindOp_any (c : Nat) (w : World) :
    Calls Tryz.prog 76 #[.int .i64 c] w fun e w' => e = .returned (.int .i64 (behindN c)) ∧ w' = w := by
  go_enter Tryz.func76, Tryz.ntmps76
  go_wp2
  all_goals go_ret
  all_goals exact ⟨ret_int (by go_light; simp at *; unfold behindN; (repeat' split) <;> omega), rfl⟩
set_option maxHeartbeats 400000 in
theorem takes_any (c : Nat) (w : World) :
    Calls Tryz.prog 46 #[.int .i64 c] w fun e w' => e = .returned (.int .i64 (takesN c)) ∧ w' = w := by
  go_enter Tryz.func46, Tryz.ntmps46
  go_wp2
  all_goals go_ret
  all_goals exact ⟨ret_int (by go_light; simp at *; unfold takesN; (repeat' split) <;> omega), rfl⟩
set_option maxHeartbeats 400000 in
theorem lays_any (c : Nat) (w : World) :
    Calls Tryz.prog 52 #[.int .i64 c] w fun e w' => e = .returned (.int .i64 (laysN c)) ∧ w' = w := by
  go_enter Tryz.func52, Tryz.ntmps52
  go_wp2
  all_goals go_ret
  all_goals exact ⟨ret_int (by go_light; unfold laysN; (repeat' split) <;> omega), rfl⟩

theorem wrap_low (L b : Nat) (h : b < 256) : wrap64 (wrap64 (wrap64 (L : Nat) * 256) + wrap64 (b : Nat)) = IntKind.i64.wrap ((b + 256 * L : Nat) : Int) := by
  simp only [IntKind.wrap_i64, wrap64]; omega
theorem lowU_step (s : ByteArray) (p j n : Nat) (hj : 0 < j) (hn : j ≤ n) : lowU s (p + (j - 1)) (n - (j - 1)) = bt s (p + (j - 1)) + 256 * lowU s (p + j) (n - j) := by
  have e : n - (j - 1) = (n - j) + 1 := by omega
  rw [e]
  simp only [lowU]
  rw [show p + (j - 1) + 1 = p + j by omega]

def cellV (o : Ins) : List Value := [.int .i64 o.pos, .int .i64 o.op, .int .i64 o.arg, .int .i64 o.next]
def cellsV (l : List Ins) : List Value := l.flatMap cellV
theorem cellsN_length (l : List Ins) : (cellsV l).length = l.length * 4 := by
  induction l with
  | nil => rfl
  | cons a r ih => simp only [cellsV, List.flatMap_cons, List.length_append, List.length_cons] at ih ⊢; rw [ih]; simp [cellV]; omega
theorem cellsV_snoc (l : List Ins) (t : Ins) : cellsV (l ++ [t]) = cellsV l ++ cellV t := by simp [cellsV]
theorem cellsN_get : ∀ (l : List Ins) (i : Nat) (h : i < l.length), (cellsV l)[i * 4]? = some (.int .i64 (nth l i).pos) ∧ (cellsV l)[i * 4 + 1]? = some (.int .i64 (nth l i).op) ∧ (cellsV l)[i * 4 + 2]? = some (.int .i64 (nth l i).arg) ∧ (cellsV l)[i * 4 + 3]? = some (.int .i64 (nth l i).next)
  | a :: r, 0, _ => by simp [cellsV, cellV, nth]
  | a :: r, i + 1, h => by
    have ih := cellsN_get r i (by simpa using h)
    have hn : nth (a :: r) (i + 1) = nth r i := by simp [nth]
    rw [hn]
    have e : cellsV (a :: r) = cellV a ++ cellsV r := by simp [cellsV]
    have hl : (cellV a).length = 4 := rfl
    rw [e]
    refine ⟨?_, ?_, ?_, ?_⟩
    · rw [List.getElem?_append_right (by rw [hl]; omega), hl, show (i + 1) * 4 - 4 = i * 4 by omega]; exact ih.1
    · rw [List.getElem?_append_right (by rw [hl]; omega), hl, show (i + 1) * 4 + 1 - 4 = i * 4 + 1 by omega]; exact ih.2.1
    · rw [List.getElem?_append_right (by rw [hl]; omega), hl, show (i + 1) * 4 + 2 - 4 = i * 4 + 2 by omega]; exact ih.2.2.1
    · rw [List.getElem?_append_right (by rw [hl]; omega), hl, show (i + 1) * 4 + 3 - 4 = i * 4 + 3 by omega]; exact ih.2.2.2

set_option maxHeartbeats 1000000 in
theorem low_any (s : ByteArray) (p n : Nat) (hs : s.size ≤ 4000) (hn : p + n ≤ s.size) (w : World) :
    Calls Tryz.prog 77 #[.string s, .int .i64 p, .int .i64 n] w fun e w' => e = .returned (.int .i64 (IntKind.i64.wrap (lowU s p n : Nat))) ∧ w' = w := by
  go_enter Tryz.func77, Tryz.ntmps77
  go_wp2
  go_loop [7, 8] (fun v i => ∃ j : Nat, j ≤ n ∧ i = .int .i64 ((j : Int) - 1) ∧ v = .int .i64 (IntKind.i64.wrap (lowU s (p + j) (n - j) : Nat))) (fun _ i => (intOf i + 1).toNat)
  case atStart => exact ⟨n, Nat.le_refl _, by go_num, by simp [lowU]; rfl⟩
  case round =>
    obtain ⟨j, hj, rfl, rfl⟩ := hrel
    by_cases h0 : 0 < j
    · have hb : p + (j - 1) < s.size := by omega
      have hbt : (s[p + (j - 1)]'hb).toNat = bt s (p + (j - 1)) := (bt_get s _ hb).symm
      have hix := fun wx => run_index_nat (P := Tryz.prog) wx 9 s .i64 (IntKind.i64.wrap ((p : Int) + ((j : Int) - 1))) (p + (j - 1)) Tryz.underlying9 (by rw [IntWalk.i64_in _ ⟨by omega, by omega⟩]; omega) hb
      go_wp2
      go_round
      case rel => exact ⟨j - 1, by omega, by go_num, by
          rw [lowU_step s p j n h0 hj]
          exact congrArg (Value.int .i64) (wrap_low _ _ (bt_lt s (p + (j - 1))))⟩
      case measure => simp [intOf]; omega
    · go_wp2
      go_ret
      have : j = 0 := by omega
      subst this
      exact ⟨ret_int (by simp), rfl⟩

/-- Which operation begins at that place: its number, or -1. -/
def IsIndex (l : List Ins) (a : Int) (r : Int) : Prop := (r = -1 ∧ ∀ k, k < l.length → ((nth l k).pos : Int) ≠ a) ∨ ∃ k : Nat, k < l.length ∧ r = k ∧ ((nth l k).pos : Int) = a
set_option maxHeartbeats 1000000 in
theorem index_any (l : List Ins) (hl : l.length ≤ 4000) (a : Int) (v : Value) (w : World) (hv : Reads w v l.length (cellsV l)) :
    Calls Tryz.prog 50 #[v, .int .i64 a] w fun e w' => ∃ r, e = .returned (.int .i64 r) ∧ IsIndex l a r ∧ w' = w := by
  rcases hv with ⟨rfl, hn, _⟩ | ⟨g, o, cap, rfl, _, hlt, hc⟩
  · have : l = [] := List.eq_nil_of_length_eq_zero hn
    subst this
    go_enter Tryz.func50, Tryz.ntmps50
    go_wp2
    refine wp_loop_rounds 1 ?_; rw [rounds_succ]
    go_wp2
    go_ret
    exact ⟨-1, rfl, .inl ⟨rfl, by simp⟩, rfl⟩
  go_enter Tryz.func50, Tryz.ntmps50
  go_wp2
  go_loop [5] (fun i => ∃ k : Nat, k ≤ l.length ∧ i = .int .i64 k ∧ ∀ j, j < k → ((nth l j).pos : Int) ≠ a) (fun i => l.length - (intOf i).toNat)
  case atStart => exact ⟨0, Nat.zero_le _, rfl, by intro j hj; omega⟩
  case round =>
    obtain ⟨k, hk, rfl, hno⟩ := hrel
    have HN : Hid (∀ j, j < k → ((nth l j).pos : Int) ≠ a) := hno
    have HC : Hid (∀ j u, (cellsV l)[j]? = some u → w.cell? ⟨g, o + j, none⟩ = some u) := hc
    clear hno hc
    by_cases hkl : k < l.length
    · have cx : w.cell? ⟨g, o + k * 4, none⟩ = some (.int .i64 (nth l k).pos) := HC.out _ _ (cellsN_get l k hkl).1
      by_cases he : ((nth l k).pos : Int) = a
      · have HE : Hid (((nth l k).pos : Int) = a) := he
        have hb : (((nth l k).pos : Int) == a) = true := by simpa using he
        clear he
        go_wp2
        go_ret
        exact ⟨k, rfl, .inr ⟨k, hkl, rfl, HE.out⟩, rfl⟩
      · have HE : Hid (((nth l k).pos : Int) ≠ a) := he
        have hb : (((nth l k).pos : Int) == a) = false := by simpa using he
        clear he
        go_wp2
        go_round
        case rel => exact ⟨k + 1, by omega, by go_num, fun j hj => by
          by_cases h : j = k
          · subst h; exact HE.out
          · exact HN.out j (by omega)⟩
        case measure => simp [intOf]; omega
    · go_wp2
      go_ret
      exact ⟨-1, rfl, .inl ⟨rfl, fun j hj => HN.out j (by omega)⟩, rfl⟩
end Go.Proofs.YtkbbdfeobcklhaaGreatDoor
