/-
  Check, held against the document: checked answers true.
  Images, in the document's words: the operations that stand in some bytes, their heights, and what makes them an image.
-/
import Derived.Test.YtkbbdfeobcklhaaGreatDoorX35
import Derived.Test.YtkbbdfeobcklhaaGreatDoorX47
import Derived.WalkKit
import Derived.WalkSpells
set_option linter.unusedVariables false
set_option linter.unusedSimpArgs false
namespace Go.Proofs.YtkbbdfeobcklhaaGreatDoor
open Go.RowKit Go.Deep

theorem policy_may {s : Txt} {L R : List RSt} (h : PolicyOf s L R) : ∀ x ∈ L ++ R, x.wf ∧ x.may := by
  intro x hx
  refine ⟨h.wf x hx, fun t ht => h.may t ?_⟩
  rw [toksL, List.mem_flatMap]
  exact ⟨x, hx, by rw [RSt.toks]; simp [ht]⟩
theorem check_same {s : Txt} {L R : List RSt} (h : PolicyOf s L R) {n p : Nat} (he : errsOf (nodesS 0 (L ++ R)) (letsS 0 (L ++ R)) (rulesS 0 (L ++ R)) = (n, p)) : checkOf L R = ((n : Int), (p : Int)) := by
  have h1 := names_same L R h.lets h.rules h.wf
  unfold errsOf at he
  unfold checkOf
  rw [h1]
  cases hn : pNames (nodesS 0 (L ++ R)) (letsS 0 (L ++ R)) (rulesS 0 (L ++ R)) with
  | some q =>
    rw [hn] at he
    simp only [Prod.mk.injEq] at he
    obtain ⟨rfl, rfl⟩ := he
    rfl
  | none =>
    rw [hn] at he
    have h2 := kinds_same L R h.lets h.rules (policy_may h) hn
    have h3 := parts_same L R h.lets h.rules (policy_may h) hn
    simp only at he ⊢
    rw [← h2, ← h3]
    cases hk : pKinds (nodesS 0 (L ++ R)) (letsS 0 (L ++ R)) (rulesS 0 (L ++ R)) with
    | some q =>
      rw [hk] at he
      simp only [Prod.mk.injEq] at he
      obtain ⟨rfl, rfl⟩ := he
      rfl
    | none =>
      rw [hk] at he
      simp only at he ⊢
      by_cases hp : pParts (nodesS 0 (L ++ R)) (letsS 0 (L ++ R)) (rulesS 0 (L ++ R)) > 150
      · rw [if_pos hp] at he
        rw [if_pos (by simpa using hp)]
        cases he; rfl
      · rw [if_neg hp] at he
        rw [if_neg (by simpa using hp)]
        cases he; rfl
theorem Check_ref (s : ByteArray) (w : World) {c : Int} {p : Nat} (h : SoundAs s.toList c p) :
    Calls Tryz.prog 16 #[.string s] w fun e w' => (∃ a1 l1 c1 a2 l2 c2 a3 l3 c3, e = .returned (.tuple #[.agg #[.slice a1 l1 c1, .slice a2 l2 c2, .slice a3 l3 c3], .int .i64 c, .int .i64 p])) ∧ Below w.heap.size w w' := by
  rcases h with ⟨ht, hc⟩ | ⟨L, R, n, hp, he, hcn⟩
  · exact Check_bad s w c p ht hc
  · have hs := check_same hp he
    have hne : 0 < (toksL (L ++ R)).length := by
      have h1 := toksL_le (L ++ R)
      cases hR : R with
      | nil => exact absurd hR hp.ne
      | cons a r => rw [toksL_append, toksL_cons, List.length_append, List.length_append, RSt.toks_length]; omega
    have := Check_fine s w L R ⟨hp.fine, hp.lets, hp.rules, hp.wf⟩ hne
    rw [hs] at this
    subst hcn
    exact this
set_option maxHeartbeats 1000000 in
theorem checked_any (s : ByteArray) (w : World) (hg : GlobT w) (hz : s.size ≤ maxLen) :
    Calls Tryz.prog 9 #[.string s] w fun e w' => Below w.heap.size w w' ∧ e = .returned (.bool true) := by
  have HG := hideP hg
  have HSZ := hideP hz
  clear hg hz
  go_enter Tryz.func9, Tryz.ntmps9
  go_wp2_with (first | (go_at_call 15; refine (Check_prog s _ HG.out HSZ.out).mono ?_; rintro e w1 ⟨hb1, c, p, hs, rfl⟩; have HB1 := hideP hb1; have HS := hideP hs; clear hb1 hs) | (go_at_call 16; refine (Check_ref s _ HS.out).mono ?_; rintro e w2 ⟨⟨a1, l1, c1, a2, l2, c2, a3, l3, c3, rfl⟩, hb2⟩; have HB2 := hideP hb2; clear hb2))
  go_ret
  exact ⟨(HB1.out.trans (HB2.out.mono HB1.out.size)).trans ((new_below w2 _).mono (HB1.out.trans (HB2.out.mono HB1.out.size)).size), rfl⟩
end Go.Proofs.YtkbbdfeobcklhaaGreatDoor

set_option linter.unusedVariables false
set_option linter.unusedSimpArgs false
namespace Go.Proofs.YtkbbdfeobcklhaaGreatDoor
open Go.RowKit

/-- The byte at a place; 0 where none is. -/
def bt (s : ByteArray) (i : Nat) : Nat := if h : i < s.size then (s[i]).toNat else 0
theorem bt_get (s : ByteArray) (i : Nat) (h : i < s.size) : bt s i = (s[i]).toNat := by simp [bt, h]
theorem bt_lt (s : ByteArray) (i : Nat) : bt s i < 256 := by
  unfold bt
  split
  · exact UInt8.toNat_lt _
  · omega
/-- So many bytes as a number, the lowest first. -/
def lowU (s : ByteArray) : Nat → Nat → Nat
  | _, 0 => 0
  | p, n + 1 => bt s p + 256 * lowU s (p + 1) n
theorem lowU_two (s : ByteArray) (p : Nat) : lowU s p 2 < 65536 := by
  have h1 := bt_lt s p
  have h2 := bt_lt s (p + 1)
  simp only [lowU]; omega
theorem lowU_one (s : ByteArray) (p : Nat) : lowU s p 1 = bt s p := by simp [lowU]
def behindN (c : Nat) : Nat := if c = 0 then 8 else if c = 1 then 1 else if c = 13 ∨ c = 14 ∨ c = 15 then 2 else 0
def takesN (c : Nat) : Nat := if c = 0 ∨ c = 1 ∨ c = 13 ∨ c = 17 then 0 else if c = 2 ∨ c = 3 ∨ c = 14 ∨ c = 15 ∨ c = 16 then 1 else 2
def laysN (c : Nat) : Nat := if 13 ≤ c then 0 else 1
/-- An operation: where it begins, which it is, what stands behind it, where the next one begins. -/
structure Ins where
  pos : Nat
  op : Nat
  arg : Int
  next : Nat
def mkIns (s : ByteArray) (p : Nat) : Ins := ⟨p, bt s p, IntKind.i64.wrap (lowU s (p + 1) (behindN (bt s p)) : Nat), p + 1 + behindN (bt s p)⟩
/-- Does an operation begin at that place? -/
def OpOkI (s : ByteArray) (p : Nat) : Prop := p < s.size ∧ bt s p ≤ 17 ∧ p + 1 + behindN (bt s p) ≤ s.size ∧ (bt s p = 1 → bt s (p + 1) ≤ 6)
def Chain (s : ByteArray) : Nat → List Ins → Nat → Prop
  | p, [], q => p = q
  | p, o :: r, q => OpOkI s p ∧ o = mkIns s p ∧ Chain s o.next r q
/-- Which places an operation goes on to. -/
def Flows (o : Ins) (q : Nat) : Prop := (o.op ≠ 13 ∧ o.op ≠ 16 ∧ o.op ≠ 17 ∧ q = o.next) ∨ ((o.op = 13 ∨ o.op = 14 ∨ o.op = 15) ∧ (q : Int) = o.next + o.arg)
def Lawful (l : List Ins) (most : Nat) (H : Nat → Int) : Prop :=
  H 3 = 0 ∧ ∀ o ∈ l, (takesN o.op : Int) ≤ H o.pos ∧ H o.pos ≤ most ∧ (∀ q, Flows o q → (∃ o' ∈ l, o'.pos = q) ∧ H q = H o.pos - takesN o.op + laysN o.op) ∧ (o.pos = 3 ∨ ∃ o' ∈ l, Flows o' o.pos)
def HeadOk (s : ByteArray) : Prop := 4 ≤ s.size ∧ s.size ≤ 4000 ∧ bt s 0 = 83 ∧ bt s 1 = 76
def IsImg (s : ByteArray) : Prop := HeadOk s ∧ ∃ l, Chain s 3 l s.size ∧ ∃ H, Lawful l (bt s 2) H

theorem Chain.le {s : ByteArray} : ∀ {l : List Ins} {p q : Nat}, Chain s p l q → p ≤ q
  | [], _, _, h => Nat.le_of_eq h
  | o :: r, p, q, h => by
    obtain ⟨_, rfl, h3⟩ := h
    have := Chain.le h3
    simp only [mkIns] at this
    omega
theorem Chain.snoc {s : ByteArray} : ∀ {l : List Ins} {p q : Nat}, Chain s p l q → OpOkI s q → Chain s p (l ++ [mkIns s q]) (mkIns s q).next
  | [], _, _, h, ho => by subst h; exact ⟨ho, rfl, rfl⟩
  | o :: r, p, q, h, ho => ⟨h.1, h.2.1, h.2.2.snoc ho⟩
/-- What has been read is the beginning of all. -/
theorem Chain.pre {s : ByteArray} : ∀ {l0 l : List Ins} {p q : Nat}, Chain s p l0 q → Chain s p l s.size → ∃ r, l = l0 ++ r ∧ Chain s q r s.size
  | [], l, p, q, h0, h => by subst h0; exact ⟨l, rfl, h⟩
  | o :: r0, [], p, q, h0, h => by
    have h1 : p < s.size := h0.1.1
    have h2 : p = s.size := h
    omega
  | o :: r0, o' :: r', p, q, h0, h => by
    obtain ⟨_, rfl, h0'⟩ := h0
    obtain ⟨_, rfl, h'⟩ := h
    obtain ⟨r, rfl, hr⟩ := Chain.pre h0' h'
    exact ⟨r, rfl, hr⟩
/-- Each operation of a row lies between its ends, and is the one that begins there. -/
theorem Chain.mem {s : ByteArray} : ∀ {l : List Ins} {p q : Nat}, Chain s p l q → ∀ o ∈ l, p ≤ o.pos ∧ o.next ≤ q ∧ OpOkI s o.pos ∧ o = mkIns s o.pos
  | [], _, _, _, o, ho => by simp at ho
  | a :: r, p, q, h, o, ho => by
    obtain ⟨h1, rfl, h3⟩ := h
    rcases List.mem_cons.1 ho with rfl | ho
    · exact ⟨Nat.le_refl _, h3.le, h1, rfl⟩
    · obtain ⟨h4, h5⟩ := Chain.mem h3 o ho
      exact ⟨by simp only [mkIns] at h4; omega, h5⟩
theorem next_pos (s : ByteArray) (p : Nat) : p < (mkIns s p).next := by simp only [mkIns]; omega
/-- Each byte from the first on begins an operation, or lies inside one. -/
theorem Chain.cover {s : ByteArray} : ∀ {l : List Ins} {p q : Nat}, Chain s p l q → ∀ i, p ≤ i → i < q → ∃ o ∈ l, o.pos ≤ i ∧ i < o.next
  | [], p, q, h, i, h1, h2 => by have : p = q := h; omega
  | a :: r, p, q, h, i, h1, h2 => by
    obtain ⟨_, rfl, h3⟩ := h
    by_cases hi : i < (mkIns s p).next
    · exact ⟨_, List.mem_cons_self, h1, hi⟩
    · obtain ⟨o, ho, h4⟩ := Chain.cover h3 i (by omega) h2
      exact ⟨o, List.mem_cons_of_mem _ ho, h4⟩
/-- No operation begins inside another. -/
theorem Chain.apart {s : ByteArray} : ∀ {l : List Ins} {p q : Nat}, Chain s p l q → ∀ a ∈ l, ∀ b ∈ l, a.pos < b.pos → a.next ≤ b.pos
  | [], _, _, _, a, ha, _, _, _ => by simp at ha
  | c :: r, p, q, h, a, ha, b, hb, hlt => by
    obtain ⟨h1, rfl, h3⟩ := h
    rcases List.mem_cons.1 ha with rfl | ha
    · rcases List.mem_cons.1 hb with rfl | hb
      · omega
      · exact (Chain.mem h3 b hb).1
    · rcases List.mem_cons.1 hb with rfl | hb
      · have := (Chain.mem h3 a ha).1
        have h5 := next_pos s p
        simp only [mkIns] at this hlt h5
        omega
      · exact Chain.apart h3 a ha b hb hlt
theorem Chain.append {s : ByteArray} : ∀ {l r : List Ins} {p q e : Nat}, Chain s p l q → Chain s q r e → Chain s p (l ++ r) e
  | [], _, _, _, _, h, h2 => by have : _ = _ := h; subst this; exact h2
  | a :: l, r, p, q, e, h, h2 => ⟨h.1, h.2.1, h.2.2.append h2⟩

theorem wrap_small (n : Nat) (h : n < 65536) : IntKind.i64.wrap (n : Nat) = n := IntWalk.i64_in _ ⟨by omega, by omega⟩
/-- Jumps go forward. -/
theorem jump_arg (s : ByteArray) (p : Nat) (h : (mkIns s p).op = 13 ∨ (mkIns s p).op = 14 ∨ (mkIns s p).op = 15) : (mkIns s p).arg = lowU s (p + 1) 2 := by
  have hb : behindN (bt s p) = 2 := by
    simp only [mkIns] at h
    unfold behindN; rcases h with h | h | h <;> simp [h]
  simp only [mkIns, hb]
  exact wrap_small _ (lowU_two s _)
theorem Flows.lt {s : ByteArray} {p q : Nat} (h : Flows (mkIns s p) q) : p < q := by
  rcases h with ⟨_, _, _, rfl⟩ | ⟨hj, hq⟩
  · exact next_pos s p
  · rw [jump_arg s p hj] at hq
    have := next_pos s p
    omega
theorem Flows.le {s : ByteArray} {p q : Nat} (h : Flows (mkIns s p) q) : (mkIns s p).next ≤ q := by
  rcases h with ⟨_, _, _, rfl⟩ | ⟨hj, hq⟩
  · exact Nat.le_refl _
  · rw [jump_arg s p hj] at hq
    omega

/-- What one pass over the operations ahead of a place has found, if nothing was wrong. -/
structure Found (s : ByteArray) (most : Nat) (H : Nat → Int) (p : Nat) (l0 : List Ins) : Prop where
  chain : Chain s 3 l0 p
  first : H 3 = 0
  src : ∀ q, H q ≠ -1 → q = 3 ∨ ∃ o ∈ l0, Flows o q ∧ H q = H o.pos - takesN o.op + laysN o.op
  done : ∀ o ∈ l0, (takesN o.op : Int) ≤ H o.pos ∧ H o.pos ≤ most ∧ ∀ q, Flows o q → q < s.size ∧ H q = H o.pos - takesN o.op + laysN o.op
  inside : ∀ o ∈ l0, ∀ q, o.pos < q → q < o.next → H q = -1
  low : ∀ q, -1 ≤ H q
  high : ∀ q, H q ≤ most

theorem Found.lawful {s : ByteArray} {most : Nat} {H : Nat → Int} {l0 : List Ins} (h : Found s most H s.size l0) : Lawful l0 most H := by
  refine ⟨h.first, fun o ho => ?_⟩
  obtain ⟨h1, h2, h3⟩ := h.done o ho
  refine ⟨h1, h2, fun q hq => ?_, ?_⟩
  · obtain ⟨h4, h5⟩ := h3 q hq
    refine ⟨?_, h5⟩
    have hm := h.chain.mem o ho
    have hlt : o.pos < q := by rw [hm.2.2.2] at hq; exact hq.lt
    obtain ⟨o', ho', h6, h7⟩ := h.chain.cover q (by omega) h4
    by_cases he : o'.pos = q
    · exact ⟨o', ho', he⟩
    · have := h.inside o' ho' q (by omega) h7
      have hl : (0 : Int) ≤ laysN o.op := by omega
      omega
  · rcases h.src o.pos (by omega) with h6 | ⟨o', ho', hf, _⟩
    · exact .inl h6
    · exact .inr ⟨o', ho', hf⟩

/-- What was found agrees with the heights of an image. -/
theorem Found.agree {s : ByteArray} {most : Nat} {H G : Nat → Int} {p : Nat} {l0 l : List Ins} (h : Found s most H p l0) (hp : p < s.size) (hc : Chain s 3 l s.size) (hl : Lawful l most G) :
    ∀ n q, q < n → H q ≠ -1 → H q = G q ∧ ∃ o ∈ l, o.pos = q := by
  obtain ⟨r, rfl, hr⟩ := h.chain.pre hc
  intro n
  induction n with
  | zero => intro q hq; omega
  | succ n ih =>
    intro q hq hne
    rcases h.src q hne with rfl | ⟨o, ho, hf, he⟩
    · refine ⟨by rw [h.first, hl.1], ?_⟩
      have h3 := h.chain.le
      obtain ⟨o, ho, h4, h5⟩ := hc.cover 3 (Nat.le_refl _) (by omega)
      exact ⟨o, ho, by have := (hc.mem o ho).1; omega⟩
    · have ho' : o ∈ l0 ++ r := List.mem_append_left _ ho
      have hm := h.chain.mem o ho
      have hlt : o.pos < q := by rw [hm.2.2.2] at hf; exact hf.lt
      obtain ⟨h1, _, _⟩ := h.done o ho
      obtain ⟨h2, _⟩ := ih o.pos (by omega) (by omega)
      obtain ⟨_, _, h3, _⟩ := hl.2 o ho'
      obtain ⟨h4, h5⟩ := h3 q hf
      exact ⟨by omega, h4⟩
end Go.Proofs.YtkbbdfeobcklhaaGreatDoor
