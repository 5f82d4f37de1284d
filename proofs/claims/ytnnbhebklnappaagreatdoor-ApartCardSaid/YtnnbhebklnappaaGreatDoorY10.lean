/-
  Images: one more operation looked at: what is found then, or that the bytes are no image.
  Images of known making: the heights of a row of operations that is entered at its first and left at its end; plain.
-/
import Derived.Test.YtnnbhebklnappaaGreatDoorY08
import Derived.Test.YtnnbhebklnappaaGreatDoorY09
set_option linter.unusedVariables false
set_option linter.unusedSimpArgs false
namespace Go.Proofs.YtnnbhebklnappaaGreatDoor
open Go.RowKit

/-- An image's operation at the place that comes next. -/
theorem Found.at {s : ByteArray} {most : Nat} {H : Nat → Int} {p : Nat} {l0 l : List Ins} (h : Found s most H p l0) (hp : p < s.size) (hc : Chain s 3 l s.size) :
    OpOkI s p ∧ ∃ r, l = l0 ++ mkIns s p :: r ∧ Chain s (mkIns s p).next r s.size := by
  obtain ⟨r, rfl, hr⟩ := h.chain.pre hc
  cases r with
  | nil => have : p = s.size := hr; omega
  | cons o r =>
    obtain ⟨h1, rfl, h3⟩ := hr
    exact ⟨h1, r, rfl, h3⟩
theorem Found.bad_op {s : ByteArray} {H : Nat → Int} {p : Nat} {l0 : List Ins} (h : Found s (bt s 2) H p l0) (hp : p < s.size) (hb : ¬ OpOkI s p) : ¬ IsImg s := by
  rintro ⟨_, l, hc, _⟩
  exact hb (h.at hp hc).1
theorem Found.bad_none {s : ByteArray} {H : Nat → Int} {p : Nat} {l0 : List Ins} (h : Found s (bt s 2) H p l0) (hp : p < s.size) (hb : H p = -1) : ¬ IsImg s := by
  rintro ⟨_, l, hc, G, hl⟩
  obtain ⟨h1, r, rfl, hr⟩ := h.at hp hc
  have hm : mkIns s p ∈ l0 ++ mkIns s p :: r := by simp
  obtain ⟨_, _, _, h4⟩ := hl.2 _ hm
  rcases h4 with h4 | ⟨o', ho', hf⟩
  · have : p = 3 := h4
    subst this
    rw [h.first] at hb
    omega
  · have hm' := hc.mem o' ho'
    have hlt : o'.pos < p := by rw [hm'.2.2.2] at hf; exact hf.lt
    have hin : o' ∈ l0 := by
      rcases List.mem_append.1 ho' with h5 | h5
      · exact h5
      · rcases List.mem_cons.1 h5 with rfl | h5
        · have : p < p := hlt
          omega
        · have := (hr.mem o' h5).1
          have h6 := next_pos s p
          omega
    obtain ⟨h7, _, h8⟩ := h.done o' hin
    have h9 := (h8 p hf).2
    omega
theorem Found.bad_low {s : ByteArray} {H : Nat → Int} {p : Nat} {l0 : List Ins} (h : Found s (bt s 2) H p l0) (hp : p < s.size) (hn : H p ≠ -1) (hb : H p < takesN (bt s p)) : ¬ IsImg s := by
  rintro ⟨_, l, hc, G, hl⟩
  have h2 := (h.agree hp hc hl (p + 1) p (by omega) hn).1
  obtain ⟨h1, r, rfl, hr⟩ := h.at hp hc
  have hm : mkIns s p ∈ l0 ++ mkIns s p :: r := by simp
  obtain ⟨h3, _⟩ := hl.2 _ hm
  simp only [mkIns] at h3
  omega
theorem Found.bad_inside {s : ByteArray} {H : Nat → Int} {p i : Nat} {l0 : List Ins} (h : Found s (bt s 2) H p l0) (hp : p < s.size) (h1 : p < i) (h2 : i < (mkIns s p).next) (hb : H i ≠ -1) : ¬ IsImg s := by
  rintro ⟨_, l, hc, G, hl⟩
  obtain ⟨_, o, ho, rfl⟩ := h.agree hp hc hl (i + 1) i (by omega) hb
  obtain ⟨_, r, rfl, hr⟩ := h.at hp hc
  have hm : mkIns s p ∈ l0 ++ mkIns s p :: r := by simp
  have h3 : (mkIns s p).pos < o.pos := h1
  have := hc.apart _ hm o ho h3
  omega
theorem Found.bad_flow {s : ByteArray} {H : Nat → Int} {p q : Nat} {l0 : List Ins} (h : Found s (bt s 2) H p l0) (hp : p < s.size) (hn : H p ≠ -1) (hf : Flows (mkIns s p) q)
    (hb : s.size ≤ q ∨ (bt s 2 : Int) < H p - takesN (bt s p) + laysN (bt s p) ∨ (H q ≠ -1 ∧ H q ≠ H p - takesN (bt s p) + laysN (bt s p))) : ¬ IsImg s := by
  rintro ⟨_, l, hc, G, hl⟩
  have h2 := (h.agree hp hc hl (p + 1) p (by omega) hn).1
  have hag := h.agree hp hc hl (q + 1) q (by omega)
  obtain ⟨_, r, rfl, hr⟩ := h.at hp hc
  have hm : mkIns s p ∈ l0 ++ mkIns s p :: r := by simp
  obtain ⟨_, _, h3, _⟩ := hl.2 _ hm
  obtain ⟨⟨o', ho', rfl⟩, h4⟩ := h3 q hf
  have h5 := (hc.mem o' ho').2.2.1.1
  obtain ⟨_, h6, _⟩ := hl.2 o' ho'
  simp only [mkIns] at h4
  rcases hb with hb | hb | ⟨hb, hb'⟩
  · omega
  · omega
  · have := (hag hb).1
    omega
/-- The operation is in order: what is found behind it. -/
theorem Found.step {s : ByteArray} {most : Nat} {H H' : Nat → Int} {p : Nat} {l0 : List Ins} (h : Found s most H p l0) (ho : OpOkI s p) (ht : (takesN (bt s p) : Int) ≤ H p)
    (hin : ∀ i, p < i → i < (mkIns s p).next → H i = -1)
    (hf : ∀ q, Flows (mkIns s p) q → q < s.size ∧ H p - takesN (bt s p) + laysN (bt s p) ≤ most ∧ (H q = -1 ∨ H q = H p - takesN (bt s p) + laysN (bt s p)) ∧ H' q = H p - takesN (bt s p) + laysN (bt s p))
    (hH : ∀ q, ¬ Flows (mkIns s p) q → H' q = H q) :
    Found s most H' (mkIns s p).next (l0 ++ [mkIns s p]) := by
  have hkeep : ∀ q, q < (mkIns s p).next → H' q = H q := fun q hq => hH q (fun hfl => by have := hfl.le; omega)
  have hpn := next_pos s p
  have h3p := h.chain.le
  have hcov : ∀ q, H q ≠ -1 → H' q = H q := by
    intro q hq
    by_cases hfl : Flows (mkIns s p) q
    · obtain ⟨_, _, h1, h2⟩ := hf q hfl
      rcases h1 with h1 | h1
      · exact absurd h1 hq
      · rw [h1, h2]
    · exact hH q hfl
  have hpos : ∀ o ∈ l0, H' o.pos = H o.pos := fun o ho' => hcov _ (by have := (h.done o ho').1; omega)
  have hp' : H' p = H p := hkeep p hpn
  refine ⟨h.chain.snoc ho, ?_, ?_, ?_, ?_, ?_, ?_⟩
  · rw [hkeep 3 (by omega), h.first]
  · intro q hq
    by_cases hfl : Flows (mkIns s p) q
    · exact .inr ⟨mkIns s p, by simp, hfl, by
        rw [(hf q hfl).2.2.2]
        show _ = H' p - takesN (bt s p) + laysN (bt s p)
        rw [hp']⟩
    · rw [hH q hfl] at hq
      rcases h.src q hq with h1 | ⟨o, ho', hfo, he⟩
      · exact .inl h1
      · exact .inr ⟨o, List.mem_append_left _ ho', hfo, by rw [hH q hfl, hpos o ho', he]⟩
  · intro o ho'
    rcases List.mem_append.1 ho' with h1 | h1
    · obtain ⟨h2, h3, h4⟩ := h.done o h1
      rw [hpos o h1]
      refine ⟨h2, h3, fun q hq => ?_⟩
      obtain ⟨h5, h6⟩ := h4 q hq
      exact ⟨h5, by rw [hcov q (by omega), h6]⟩
    · have : o = mkIns s p := by simpa using h1
      subst this
      show (takesN (bt s p) : Int) ≤ H' p ∧ H' p ≤ most ∧ ∀ q, Flows (mkIns s p) q → q < s.size ∧ H' q = H' p - takesN (bt s p) + laysN (bt s p)
      rw [hp']
      exact ⟨ht, h.high p, fun q hq => ⟨(hf q hq).1, (hf q hq).2.2.2⟩⟩
  · intro o ho' q h1 h2
    rcases List.mem_append.1 ho' with h3 | h3
    · have h4 := (h.chain.mem o h3).2.1
      rw [hkeep q (by omega)]
      exact h.inside o h3 q h1 h2
    · have : o = mkIns s p := by simpa using h3
      subst this
      rw [hkeep q h2]
      exact hin q h1 h2
  · intro q
    by_cases hfl : Flows (mkIns s p) q
    · rw [(hf q hfl).2.2.2]
      have := h.low p
      omega
    · rw [hH q hfl]; exact h.low q
  · intro q
    by_cases hfl : Flows (mkIns s p) q
    · rw [(hf q hfl).2.2.2]
      exact (hf q hfl).2.1
    · rw [hH q hfl]; exact h.high q
/-- Ahead of the first operation. -/
theorem found_start (s : ByteArray) (most : Nat) : Found s most (fun q => if q = 3 then 0 else -1) 3 [] := by
  refine ⟨rfl, by simp, ?_, by simp, by simp, ?_, ?_⟩
  · intro q hq
    by_cases h : q = 3
    · exact .inl h
    · simp [h] at hq
  · intro q; by_cases h : q = 3 <;> simp [h]
  · intro q; by_cases h : q = 3 <;> simp [h]
end Go.Proofs.YtnnbhebklnappaaGreatDoor

set_option linter.unusedVariables false
set_option linter.unusedSimpArgs false
namespace Go.Proofs.YtnnbhebklnappaaGreatDoor
open Go.RowKit

/-- A row of operations from p to q: its first has the height h, the one at q has e; hi is the greatest of all these. -/
structure Seg (s : ByteArray) (p q : Nat) (h e hi : Int) (l : List Ins) (H : Nat → Int) : Prop where
  chain : Chain s p l q
  start : H p = h
  fin : H q = e
  ops : ∀ o ∈ l, (takesN o.op : Int) ≤ H o.pos ∧ H o.pos ≤ hi ∧ ∀ r, Flows o r → (r = q ∨ ∃ o' ∈ l, o'.pos = r) ∧ H r = H o.pos - takesN o.op + laysN o.op
  reach : ∀ o ∈ l, o.pos = p ∨ ∃ o' ∈ l, Flows o' o.pos
  out : ∃ o ∈ l, Flows o q
  ends : e ≤ hi
  top : (∃ o ∈ l, H o.pos = hi) ∨ e = hi
theorem Seg.lt {s : ByteArray} {p q : Nat} {h e hi : Int} {l : List Ins} {H : Nat → Int} (g : Seg s p q h e hi l H) : p < q := by
  obtain ⟨o, ho, hf⟩ := g.out
  have hm := g.chain.mem o ho
  rw [hm.2.2.2] at hf
  have := hf.lt
  omega
theorem Seg.first {s : ByteArray} {p q : Nat} {h e hi : Int} {l : List Ins} {H : Nat → Int} (g : Seg s p q h e hi l H) : ∃ o ∈ l, o.pos = p := by
  obtain ⟨o, ho, h1, h2⟩ := g.chain.cover p (Nat.le_refl _) g.lt
  exact ⟨o, ho, by have := (g.chain.mem o ho).1; omega⟩
theorem Seg.before {s : ByteArray} {p q : Nat} {h e hi : Int} {l : List Ins} {H : Nat → Int} (g : Seg s p q h e hi l H) {o : Ins} (ho : o ∈ l) : p ≤ o.pos ∧ o.pos < q := by
  have hm := g.chain.mem o ho
  have := next_pos s o.pos
  rw [← hm.2.2.2] at this
  omega
/-- One operation that goes on to the next alone. -/
theorem seg_op {s : ByteArray} {p : Nat} {h : Int} (ho : OpOkI s p) (ht : (takesN (bt s p) : Int) ≤ h) (hf : ∀ r, Flows (mkIns s p) r ↔ r = (mkIns s p).next) :
    Seg s p (mkIns s p).next h (h - takesN (bt s p) + laysN (bt s p)) (max h (h - takesN (bt s p) + laysN (bt s p))) [mkIns s p] (fun x => if x = p then h else h - takesN (bt s p) + laysN (bt s p)) := by
  have hn := next_pos s p
  have hne : ¬ ((mkIns s p).next = p) := by omega
  refine ⟨⟨ho, rfl, rfl⟩, by simp, by simp [hne], ?_, ?_, ⟨_, by simp, (hf _).2 rfl⟩, by omega, ?_⟩
  · intro o hm
    obtain rfl : o = mkIns s p := by simpa using hm
    refine ⟨?_, ?_, fun r hr => ?_⟩
    · show (takesN (bt s p) : Int) ≤ (if p = p then h else _); simpa using ht
    · show (if p = p then h else _) ≤ _; simp; omega
    · obtain rfl := (hf r).1 hr
      refine ⟨.inl rfl, ?_⟩
      show (if (mkIns s p).next = p then h else _) = (if p = p then h else _) - takesN (bt s p) + laysN (bt s p)
      simp [hne]
  · intro o hm
    obtain rfl : o = mkIns s p := by simpa using hm
    exact .inl rfl
  · by_cases hc : h - takesN (bt s p) + laysN (bt s p) ≤ h
    · exact .inl ⟨mkIns s p, by simp, by show (if p = p then h else _) = _; simp; omega⟩
    · exact .inr (by omega)
/-- One row behind the other. -/
theorem Seg.seq {s : ByteArray} {p q r : Nat} {h e f hi1 hi2 : Int} {l1 l2 : List Ins} {H1 H2 : Nat → Int} (g1 : Seg s p q h e hi1 l1 H1) (g2 : Seg s q r e f hi2 l2 H2) :
    Seg s p r h f (max hi1 hi2) (l1 ++ l2) (fun x => if x < q then H1 x else H2 x) := by
  have hpq := g1.lt
  have hqr := g2.lt
  have e1 : ∀ o ∈ l1, (if o.pos < q then H1 o.pos else H2 o.pos) = H1 o.pos := fun o ho => if_pos (g1.before ho).2
  have e2 : ∀ o ∈ l2, (if o.pos < q then H1 o.pos else H2 o.pos) = H2 o.pos := fun o ho => if_neg (by have := (g2.before ho).1; omega)
  obtain ⟨o2, ho2, hp2⟩ := g2.first
  refine ⟨g1.chain.append g2.chain, by simp [hpq, g1.start], ?_, ?_, ?_, ?_, ?_, ?_⟩
  · show (if r < q then H1 r else H2 r) = f
    rw [if_neg (by omega), g2.fin]
  · intro o ho
    rcases List.mem_append.1 ho with h1 | h1
    · obtain ⟨a1, a2, a3⟩ := g1.ops o h1
      show _ ≤ (if o.pos < q then H1 o.pos else H2 o.pos) ∧ (if o.pos < q then H1 o.pos else H2 o.pos) ≤ _ ∧ ∀ t, Flows o t → _ ∧ (if t < q then H1 t else H2 t) = (if o.pos < q then H1 o.pos else H2 o.pos) - _ + _
      rw [e1 o h1]
      refine ⟨a1, by omega, fun t ht => ?_⟩
      obtain ⟨b1, b2⟩ := a3 t ht
      rcases b1 with rfl | ⟨o', ho', rfl⟩
      · refine ⟨.inr ⟨o2, List.mem_append_right _ ho2, hp2⟩, ?_⟩
        rw [if_neg (by omega), g2.start, ← b2, g1.fin]
      · refine ⟨.inr ⟨o', List.mem_append_left _ ho', rfl⟩, ?_⟩
        rw [if_pos (g1.before ho').2, b2]
    · obtain ⟨a1, a2, a3⟩ := g2.ops o h1
      show _ ≤ (if o.pos < q then H1 o.pos else H2 o.pos) ∧ (if o.pos < q then H1 o.pos else H2 o.pos) ≤ _ ∧ ∀ t, Flows o t → _ ∧ (if t < q then H1 t else H2 t) = (if o.pos < q then H1 o.pos else H2 o.pos) - _ + _
      rw [e2 o h1]
      refine ⟨a1, by omega, fun t ht => ?_⟩
      obtain ⟨b1, b2⟩ := a3 t ht
      rcases b1 with rfl | ⟨o', ho', rfl⟩
      · exact ⟨.inl rfl, by rw [if_neg (by omega), b2]⟩
      · exact ⟨.inr ⟨o', List.mem_append_right _ ho', rfl⟩, by rw [if_neg (by have := (g2.before ho').1; omega), b2]⟩
  · intro o ho
    rcases List.mem_append.1 ho with h1 | h1
    · rcases g1.reach o h1 with h2 | ⟨o', ho', hf⟩
      · exact .inl h2
      · exact .inr ⟨o', List.mem_append_left _ ho', hf⟩
    · rcases g2.reach o h1 with h2 | ⟨o', ho', hf⟩
      · obtain ⟨o', ho', hf⟩ := g1.out
        exact .inr ⟨o', List.mem_append_left _ ho', by rw [h2]; exact hf⟩
      · exact .inr ⟨o', List.mem_append_right _ ho', hf⟩
  · obtain ⟨o', ho', hf⟩ := g2.out
    exact ⟨o', List.mem_append_right _ ho', hf⟩
  · have := g2.ends; omega
  · by_cases hc : hi2 ≤ hi1
    · refine .inl ?_
      rcases g1.top with ⟨o, ho, he⟩ | he
      · exact ⟨o, List.mem_append_left _ ho, by rw [e1 o ho, he]; omega⟩
      · exact ⟨o2, List.mem_append_right _ ho2, by rw [e2 o2 ho2, hp2, g2.start, he]; omega⟩
    · rcases g2.top with ⟨o, ho, he⟩ | he
      · exact .inl ⟨o, List.mem_append_right _ ho, by rw [e2 o ho, he]; omega⟩
      · exact .inr (by omega)
/-- A row from the first operation on, with a Score or a Reject behind it: an image's heights. -/
theorem Seg.lawful {s : ByteArray} {q : Nat} {e hi : Int} {l : List Ins} {H : Nat → Int} {most : Nat} (g : Seg s 3 q 0 e hi l H) (ho : OpOkI s q) (hk : bt s q = 16 ∨ bt s q = 17) (ht : (takesN (bt s q) : Int) ≤ e) (hm : hi ≤ most) : Lawful (l ++ [mkIns s q]) most H := by
  have he := g.ends
  refine ⟨g.start, fun o hmem => ?_⟩
  rcases List.mem_append.1 hmem with h1 | h1
  · obtain ⟨a1, a2, a3⟩ := g.ops o h1
    refine ⟨a1, by omega, fun r hr => ?_, ?_⟩
    · obtain ⟨b1, b2⟩ := a3 r hr
      refine ⟨?_, b2⟩
      rcases b1 with rfl | ⟨o', ho', hp⟩
      · exact ⟨mkIns s r, by simp, rfl⟩
      · exact ⟨o', List.mem_append_left _ ho', hp⟩
    · rcases g.reach o h1 with h2 | ⟨o', ho', hf⟩
      · exact .inl h2
      · exact .inr ⟨o', List.mem_append_left _ ho', hf⟩
  · obtain rfl : o = mkIns s q := by simpa using h1
    refine ⟨by show _ ≤ H q; rw [g.fin]; exact ht, by show H q ≤ _; rw [g.fin]; omega, fun r hr => ?_, ?_⟩
    · exfalso
      rcases hr with ⟨_, h2, h3, _⟩ | ⟨h2, _⟩
      · simp only [mkIns] at h2 h3; omega
      · simp only [mkIns] at h2; omega
    · obtain ⟨o', ho', hf⟩ := g.out
      exact .inr ⟨o', List.mem_append_left _ ho', hf⟩
/-- The heights of an image that begins with such a row are those. -/
theorem Seg.same {s : ByteArray} {q : Nat} {e hi : Int} {l l' : List Ins} {H G : Nat → Int} {most : Nat} (g : Seg s 3 q 0 e hi l H) (hl : Lawful (l ++ l') most G) : ∀ n p, p < n → (p = 3 ∨ ∃ o ∈ l, Flows o p) → G p = H p := by
  intro n
  induction n with
  | zero => intro p hp; omega
  | succ n ih =>
    intro p hp hor
    rcases hor with rfl | ⟨o, ho, hf⟩
    · rw [hl.1, g.start]
    · have hm := g.chain.mem o ho
      have hlt : o.pos < p := by rw [hm.2.2.2] at hf; exact hf.lt
      have h1 := ih o.pos (by omega) (g.reach o ho)
      have h2 := ((hl.2 o (List.mem_append_left _ ho)).2.2.1 p hf).2
      have h3 := ((g.ops o ho).2.2 p hf).2
      rw [h2, h3, h1]
/-- With less height it is none. -/
theorem Seg.tooHigh {s : ByteArray} {q : Nat} {e hi : Int} {l : List Ins} {H : Nat → Int} {most : Nat} (g : Seg s 3 q 0 e hi l H) (ho : OpOkI s q) (hm : (most : Int) < hi) : ∀ l' G, ¬ Lawful (l ++ mkIns s q :: l') most G := by
  intro l' G hl
  rcases g.top with ⟨o, hom, he⟩ | he
  · have h1 := g.same hl (o.pos + 1) o.pos (by omega) (g.reach o hom)
    have h2 := (hl.2 o (List.mem_append_left _ hom)).2.1
    omega
  · have h1 := g.same hl (q + 1) q (by omega) (.inr g.out)
    have h2 := (hl.2 (mkIns s q) (by simp)).2.1
    have h3 : G (mkIns s q).pos = G q := rfl
    rw [h3, h1, g.fin] at h2
    omega
/-- What decides, two rows of which one is done, the first with a jump over the other behind it. -/
theorem seg_choice {s : ByteArray} {p q0 q1 q2 t e : Nat} {h hi1 hi2 hi3 : Int} {lp la lb : List Ins} {Hp Ha Hb : Nat → Int} (hh : 0 ≤ h)
    (gp : Seg s p q0 h (h + 1) hi1 lp Hp) (ok0 : OpOkI s q0) (k0 : bt s q0 = 14 ∨ bt s q0 = 15) (n0 : (mkIns s q0).next = q1) (t0 : (mkIns s q0).to = t)
    (ga : Seg s q1 q2 h (h + 1) hi2 la Ha) (ok2 : OpOkI s q2) (k2 : bt s q2 = 13) (n2 : (mkIns s q2).next = t) (t2 : (mkIns s q2).to = e)
    (gb : Seg s t e h (h + 1) hi3 lb Hb) :
    Seg s p e h (h + 1) (max hi1 (max hi2 hi3)) (lp ++ mkIns s q0 :: (la ++ mkIns s q2 :: lb)) (fun x => if x ≤ q0 then Hp x else if x ≤ q2 then Ha x else Hb x) := by
  have h01 : q0 < q1 := by rw [← n0]; exact next_pos s q0
  have h2t : q2 < t := by rw [← n2]; exact next_pos s q2
  have hpl := gp.lt
  have hal := ga.lt
  have hbl := gb.lt
  have f0 : ∀ r, Flows (mkIns s q0) r ↔ r = q1 ∨ r = t := by
    intro r
    have hto := jump_to s q0 (.inr k0)
    constructor
    · rintro (⟨_, _, _, h4⟩ | ⟨_, h4⟩)
      · exact .inl (by rw [h4, n0])
      · exact .inr (by rw [← t0]; omega)
    · rintro (h4 | h4)
      · exact .inl ⟨by simp only [mkIns]; omega, by simp only [mkIns]; omega, by simp only [mkIns]; omega, by rw [h4, n0]⟩
      · exact .inr ⟨.inr k0, by rw [h4, ← t0]; omega⟩
  have f2 : ∀ r, Flows (mkIns s q2) r ↔ r = e := by
    intro r
    have hto := jump_to s q2 (.inl k2)
    constructor
    · rintro (⟨h4, _⟩ | ⟨_, h4⟩)
      · exact absurd k2 h4
      · rw [← t2]; omega
    · intro h4
      exact .inr ⟨.inl k2, by rw [h4, ← t2]; omega⟩
  have tk0 : takesN (bt s q0) = 1 ∧ laysN (bt s q0) = 0 := by rcases k0 with h | h <;> rw [h] <;> exact ⟨rfl, rfl⟩
  have tk2 : takesN (bt s q2) = 0 ∧ laysN (bt s q2) = 0 := by rw [k2]; exact ⟨rfl, rfl⟩
  obtain ⟨oa, hoa, hpa⟩ := ga.first
  obtain ⟨ob, hob, hpb⟩ := gb.first
  have mp : ∀ {o}, o ∈ lp → o ∈ lp ++ mkIns s q0 :: (la ++ mkIns s q2 :: lb) := fun h => List.mem_append_left _ h
  have m0 : mkIns s q0 ∈ lp ++ mkIns s q0 :: (la ++ mkIns s q2 :: lb) := by simp
  have ma : ∀ {o}, o ∈ la → o ∈ lp ++ mkIns s q0 :: (la ++ mkIns s q2 :: lb) := fun h => List.mem_append_right _ (List.mem_cons_of_mem _ (List.mem_append_left _ h))
  have m2 : mkIns s q2 ∈ lp ++ mkIns s q0 :: (la ++ mkIns s q2 :: lb) := by simp
  have mb : ∀ {o}, o ∈ lb → o ∈ lp ++ mkIns s q0 :: (la ++ mkIns s q2 :: lb) := fun h => List.mem_append_right _ (List.mem_cons_of_mem _ (List.mem_append_right _ (List.mem_cons_of_mem _ h)))
  have ep : ∀ x, x ≤ q0 → (if x ≤ q0 then Hp x else if x ≤ q2 then Ha x else Hb x) = Hp x := fun x hx => if_pos hx
  have ea : ∀ x, q0 < x → x ≤ q2 → (if x ≤ q0 then Hp x else if x ≤ q2 then Ha x else Hb x) = Ha x := fun x h1 h2 => by rw [if_neg (by omega), if_pos h2]
  have eb : ∀ x, t ≤ x → (if x ≤ q0 then Hp x else if x ≤ q2 then Ha x else Hb x) = Hb x := fun x h1 => by rw [if_neg (by omega), if_neg (by omega)]
  refine ⟨?_, ?_, ?_, ?_, ?_, ?_, ?_, ?_⟩
  · refine gp.chain.append ⟨ok0, rfl, ?_⟩
    rw [n0]
    refine ga.chain.append ⟨ok2, rfl, ?_⟩
    rw [n2]
    exact gb.chain
  · show (if p ≤ q0 then Hp p else _) = h
    rw [if_pos (by omega), gp.start]
  · show (if e ≤ q0 then Hp e else if e ≤ q2 then Ha e else Hb e) = h + 1
    rw [eb e (by omega), gb.fin]
  · intro o hmem
    show (takesN o.op : Int) ≤ (if o.pos ≤ q0 then Hp o.pos else if o.pos ≤ q2 then Ha o.pos else Hb o.pos) ∧ (if o.pos ≤ q0 then Hp o.pos else if o.pos ≤ q2 then Ha o.pos else Hb o.pos) ≤ _ ∧ ∀ r, Flows o r → _ ∧ (if r ≤ q0 then Hp r else if r ≤ q2 then Ha r else Hb r) = (if o.pos ≤ q0 then Hp o.pos else if o.pos ≤ q2 then Ha o.pos else Hb o.pos) - takesN o.op + laysN o.op
    rcases List.mem_append.1 hmem with h1 | h1
    · have hb := gp.before h1
      obtain ⟨a1, a2, a3⟩ := gp.ops o h1
      rw [ep o.pos (by omega)]
      refine ⟨a1, by omega, fun r hr => ?_⟩
      obtain ⟨b1, b2⟩ := a3 r hr
      rcases b1 with rfl | ⟨o', ho', rfl⟩
      · exact ⟨.inr ⟨_, m0, rfl⟩, by rw [ep r (Nat.le_refl _), b2]⟩
      · exact ⟨.inr ⟨o', mp ho', rfl⟩, by rw [ep o'.pos (by have := gp.before ho'; omega), b2]⟩
    · rcases List.mem_cons.1 h1 with rfl | h1
      · have hpos : (mkIns s q0).pos = q0 := rfl
        have hop : (mkIns s q0).op = bt s q0 := rfl
        have hge := gp.ends
        rw [hpos, hop, ep q0 (Nat.le_refl _), gp.fin, tk0.1, tk0.2]
        refine ⟨by omega, by omega, fun r hr => ?_⟩
        rcases (f0 r).1 hr with rfl | rfl
        · exact ⟨.inr ⟨oa, ma hoa, hpa⟩, by rw [ea r h01 (by omega), ga.start]; omega⟩
        · exact ⟨.inr ⟨ob, mb hob, hpb⟩, by rw [eb r (Nat.le_refl _), gb.start]; omega⟩
      · rcases List.mem_append.1 h1 with h1 | h1
        · have hb := ga.before h1
          obtain ⟨a1, a2, a3⟩ := ga.ops o h1
          rw [ea o.pos (by omega) (by omega)]
          refine ⟨a1, by omega, fun r hr => ?_⟩
          obtain ⟨b1, b2⟩ := a3 r hr
          rcases b1 with rfl | ⟨o', ho', rfl⟩
          · exact ⟨.inr ⟨_, m2, rfl⟩, by rw [ea r (by omega) (Nat.le_refl _), b2]⟩
          · exact ⟨.inr ⟨o', ma ho', rfl⟩, by have := ga.before ho'; rw [ea o'.pos (by omega) (by omega), b2]⟩
        · rcases List.mem_cons.1 h1 with rfl | h1
          · have hpos : (mkIns s q2).pos = q2 := rfl
            have hop : (mkIns s q2).op = bt s q2 := rfl
            have hge := ga.ends
            rw [hpos, hop, ea q2 (by omega) (Nat.le_refl _), ga.fin, tk2.1, tk2.2]
            refine ⟨by omega, by omega, fun r hr => ?_⟩
            obtain rfl := (f2 r).1 hr
            exact ⟨.inl rfl, by rw [eb r (by omega), gb.fin]; omega⟩
          · have hb := gb.before h1
            obtain ⟨a1, a2, a3⟩ := gb.ops o h1
            rw [eb o.pos hb.1]
            refine ⟨a1, by omega, fun r hr => ?_⟩
            obtain ⟨b1, b2⟩ := a3 r hr
            rcases b1 with rfl | ⟨o', ho', rfl⟩
            · exact ⟨.inl rfl, by rw [eb r (by omega), b2]⟩
            · exact ⟨.inr ⟨o', mb ho', rfl⟩, by rw [eb o'.pos (gb.before ho').1, b2]⟩
  · intro o hmem
    rcases List.mem_append.1 hmem with h1 | h1
    · rcases gp.reach o h1 with h2 | ⟨o', ho', hf⟩
      · exact .inl h2
      · exact .inr ⟨o', mp ho', hf⟩
    · rcases List.mem_cons.1 h1 with rfl | h1
      · obtain ⟨o', ho', hf⟩ := gp.out
        exact .inr ⟨o', mp ho', hf⟩
      · rcases List.mem_append.1 h1 with h1 | h1
        · rcases ga.reach o h1 with h2 | ⟨o', ho', hf⟩
          · exact .inr ⟨_, m0, by rw [h2]; exact (f0 q1).2 (.inl rfl)⟩
          · exact .inr ⟨o', ma ho', hf⟩
        · rcases List.mem_cons.1 h1 with rfl | h1
          · obtain ⟨o', ho', hf⟩ := ga.out
            exact .inr ⟨o', ma ho', hf⟩
          · rcases gb.reach o h1 with h2 | ⟨o', ho', hf⟩
            · exact .inr ⟨_, m0, by rw [h2]; exact (f0 t).2 (.inr rfl)⟩
            · exact .inr ⟨o', mb ho', hf⟩
  · obtain ⟨o, ho, hf⟩ := gb.out
    exact ⟨o, mb ho, hf⟩
  · have := gp.ends; omega
  · have t1 : ∃ o ∈ lp ++ mkIns s q0 :: (la ++ mkIns s q2 :: lb), (if o.pos ≤ q0 then Hp o.pos else if o.pos ≤ q2 then Ha o.pos else Hb o.pos) = hi1 := by
      rcases gp.top with ⟨o, ho, he⟩ | he
      · exact ⟨o, mp ho, by rw [ep o.pos (by have := gp.before ho; omega), he]⟩
      · exact ⟨_, m0, by show (if q0 ≤ q0 then Hp q0 else _) = hi1; rw [if_pos (Nat.le_refl _), gp.fin, he]⟩
    have t2' : ∃ o ∈ lp ++ mkIns s q0 :: (la ++ mkIns s q2 :: lb), (if o.pos ≤ q0 then Hp o.pos else if o.pos ≤ q2 then Ha o.pos else Hb o.pos) = hi2 := by
      rcases ga.top with ⟨o, ho, he⟩ | he
      · have hb := ga.before ho
        exact ⟨o, ma ho, by rw [ea o.pos (by omega) (by omega), he]⟩
      · exact ⟨_, m2, by show (if q2 ≤ q0 then Hp q2 else if q2 ≤ q2 then Ha q2 else Hb q2) = hi2; rw [ea q2 (by omega) (Nat.le_refl _), ga.fin, he]⟩
    by_cases c1 : max hi2 hi3 ≤ hi1
    · obtain ⟨o, ho, he⟩ := t1
      exact .inl ⟨o, ho, by rw [he]; omega⟩
    · by_cases c2 : hi3 ≤ hi2
      · obtain ⟨o, ho, he⟩ := t2'
        exact .inl ⟨o, ho, by rw [he]; omega⟩
      · rcases gb.top with ⟨o, ho, he⟩ | he
        · exact .inl ⟨o, mb ho, by show (if o.pos ≤ q0 then Hp o.pos else if o.pos ≤ q2 then Ha o.pos else Hb o.pos) = _; rw [eb o.pos (gb.before ho).1, he]; omega⟩
        · exact .inr (by omega)
end Go.Proofs.YtnnbhebklnappaaGreatDoor
