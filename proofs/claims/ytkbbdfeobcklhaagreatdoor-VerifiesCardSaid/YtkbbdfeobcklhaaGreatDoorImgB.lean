/-
  Images: one more operation looked at: what is found then, or that the bytes are no image.
-/
import Derived.Test.YtkbbdfeobcklhaaGreatDoorImg
set_option linter.unusedVariables false
set_option linter.unusedSimpArgs false
namespace Go.Proofs.YtkbbdfeobcklhaaGreatDoor
open Go.RowKit

/-- An image's operation at the place that comes next. -/
theorem Found.at {s : ByteArray} {most : Nat} {H : Nat → Int} {p : Nat} {l0 l : List Ins} (h : Found s most H p l0) (hp : p < s.size) (hc : Chain s 3 l s.size) :
    OpOkI s p ∧ ∃ r, l = l0 ++ mkIns s p :: r ∧ Chain s (mkIns s p).next r s.size := by
  obtain ⟨r, rfl, hr⟩ := h.chain.pre hc
  cases r with
  | nil => have : p = s.size := hr; omega
  | cons o r =>
    obtain ⟨h1, rfl, h3⟩ := hr
    exact ⟨h1, r, rfl, h3⟩
theorem Found.bad_op {s : ByteArray} {H : Nat → Int} {p : Nat} {l0 : List Ins} (h : Found s (bt s 2) H p l0) (hp : p < s.size) (hb : ¬ OpOkI s p) : ¬ IsImg s := by
  rintro ⟨_, l, hc, _⟩
  exact hb (h.at hp hc).1
theorem Found.bad_none {s : ByteArray} {H : Nat → Int} {p : Nat} {l0 : List Ins} (h : Found s (bt s 2) H p l0) (hp : p < s.size) (hb : H p = -1) : ¬ IsImg s := by
  rintro ⟨_, l, hc, G, hl⟩
  obtain ⟨h1, r, rfl, hr⟩ := h.at hp hc
  have hm : mkIns s p ∈ l0 ++ mkIns s p :: r := by simp
  obtain ⟨_, _, _, h4⟩ := hl.2 _ hm
  rcases h4 with h4 | ⟨o', ho', hf⟩
  · have : p = 3 := h4
    subst this
    rw [h.first] at hb
    omega
  · have hm' := hc.mem o' ho'
    have hlt : o'.pos < p := by rw [hm'.2.2.2] at hf; exact hf.lt
    have hin : o' ∈ l0 := by
      rcases List.mem_append.1 ho' with h5 | h5
      · exact h5
      · rcases List.mem_cons.1 h5 with rfl | h5
        · have : p < p := hlt
          omega
        · have := (hr.mem o' h5).1
          have h6 := next_pos s p
          omega
    obtain ⟨h7, _, h8⟩ := h.done o' hin
    have h9 := (h8 p hf).2
    omega
theorem Found.bad_low {s : ByteArray} {H : Nat → Int} {p : Nat} {l0 : List Ins} (h : Found s (bt s 2) H p l0) (hp : p < s.size) (hn : H p ≠ -1) (hb : H p < takesN (bt s p)) : ¬ IsImg s := by
  rintro ⟨_, l, hc, G, hl⟩
  have h2 := (h.agree hp hc hl (p + 1) p (by omega) hn).1
  obtain ⟨h1, r, rfl, hr⟩ := h.at hp hc
  have hm : mkIns s p ∈ l0 ++ mkIns s p :: r := by simp
  obtain ⟨h3, _⟩ := hl.2 _ hm
  simp only [mkIns] at h3
  omega
theorem Found.bad_inside {s : ByteArray} {H : Nat → Int} {p i : Nat} {l0 : List Ins} (h : Found s (bt s 2) H p l0) (hp : p < s.size) (h1 : p < i) (h2 : i < (mkIns s p).next) (hb : H i ≠ -1) : ¬ IsImg s := by
  rintro ⟨_, l, hc, G, hl⟩
  obtain ⟨_, o, ho, rfl⟩ := h.agree hp hc hl (i + 1) i (by omega) hb
  obtain ⟨_, r, rfl, hr⟩ := h.at hp hc
  have hm : mkIns s p ∈ l0 ++ mkIns s p :: r := by simp
  have h3 : (mkIns s p).pos < o.pos := h1
  have := hc.apart _ hm o ho h3
  omega
theorem Found.bad_flow {s : ByteArray} {H : Nat → Int} {p q : Nat} {l0 : List Ins} (h : Found s (bt s 2) H p l0) (hp : p < s.size) (hn : H p ≠ -1) (hf : Flows (mkIns s p) q)
    (hb : s.size ≤ q ∨ (bt s 2 : Int) < H p - takesN (bt s p) + laysN (bt s p) ∨ (H q ≠ -1 ∧ H q ≠ H p - takesN (bt s p) + laysN (bt s p))) : ¬ IsImg s := by
  rintro ⟨_, l, hc, G, hl⟩
  have h2 := (h.agree hp hc hl (p + 1) p (by omega) hn).1
  have hag := h.agree hp hc hl (q + 1) q (by omega)
  obtain ⟨_, r, rfl, hr⟩ := h.at hp hc
  have hm : mkIns s p ∈ l0 ++ mkIns s p :: r := by simp
  obtain ⟨_, _, h3, _⟩ := hl.2 _ hm
  obtain ⟨⟨o', ho', rfl⟩, h4⟩ := h3 q hf
  have h5 := (hc.mem o' ho').2.2.1.1
  obtain ⟨_, h6, _⟩ := hl.2 o' ho'
  simp only [mkIns] at h4
  rcases hb with hb | hb | ⟨hb, hb'⟩
  · omega
  · omega
  · have := (hag hb).1
    omega
/-- The operation is in order: what is found behind it. -/
theorem Found.step {s : ByteArray} {most : Nat} {H H' : Nat → Int} {p : Nat} {l0 : List Ins} (h : Found s most H p l0) (ho : OpOkI s p) (ht : (takesN (bt s p) : Int) ≤ H p)
    (hin : ∀ i, p < i → i < (mkIns s p).next → H i = -1)
    (hf : ∀ q, Flows (mkIns s p) q → q < s.size ∧ H p - takesN (bt s p) + laysN (bt s p) ≤ most ∧ (H q = -1 ∨ H q = H p - takesN (bt s p) + laysN (bt s p)) ∧ H' q = H p - takesN (bt s p) + laysN (bt s p))
    (hH : ∀ q, ¬ Flows (mkIns s p) q → H' q = H q) :
    Found s most H' (mkIns s p).next (l0 ++ [mkIns s p]) := by
  have hkeep : ∀ q, q < (mkIns s p).next → H' q = H q := fun q hq => hH q (fun hfl => by have := hfl.le; omega)
  have hpn := next_pos s p
  have h3p := h.chain.le
  have hcov : ∀ q, H q ≠ -1 → H' q = H q := by
    intro q hq
    by_cases hfl : Flows (mkIns s p) q
    · obtain ⟨_, _, h1, h2⟩ := hf q hfl
      rcases h1 with h1 | h1
      · exact absurd h1 hq
      · rw [h1, h2]
    · exact hH q hfl
  have hpos : ∀ o ∈ l0, H' o.pos = H o.pos := fun o ho' => hcov _ (by have := (h.done o ho').1; omega)
  have hp' : H' p = H p := hkeep p hpn
  refine ⟨h.chain.snoc ho, ?_, ?_, ?_, ?_, ?_, ?_⟩
  · rw [hkeep 3 (by omega), h.first]
  · intro q hq
    by_cases hfl : Flows (mkIns s p) q
    · exact .inr ⟨mkIns s p, by simp, hfl, by
        rw [(hf q hfl).2.2.2]
        show _ = H' p - takesN (bt s p) + laysN (bt s p)
        rw [hp']⟩
    · rw [hH q hfl] at hq
      rcases h.src q hq with h1 | ⟨o, ho', hfo, he⟩
      · exact .inl h1
      · exact .inr ⟨o, List.mem_append_left _ ho', hfo, by rw [hH q hfl, hpos o ho', he]⟩
  · intro o ho'
    rcases List.mem_append.1 ho' with h1 | h1
    · obtain ⟨h2, h3, h4⟩ := h.done o h1
      rw [hpos o h1]
      refine ⟨h2, h3, fun q hq => ?_⟩
      obtain ⟨h5, h6⟩ := h4 q hq
      exact ⟨h5, by rw [hcov q (by omega), h6]⟩
    · have : o = mkIns s p := by simpa using h1
      subst this
      show (takesN (bt s p) : Int) ≤ H' p ∧ H' p ≤ most ∧ ∀ q, Flows (mkIns s p) q → q < s.size ∧ H' q = H' p - takesN (bt s p) + laysN (bt s p)
      rw [hp']
      exact ⟨ht, h.high p, fun q hq => ⟨(hf q hq).1, (hf q hq).2.2.2⟩⟩
  · intro o ho' q h1 h2
    rcases List.mem_append.1 ho' with h3 | h3
    · have h4 := (h.chain.mem o h3).2.1
      rw [hkeep q (by omega)]
      exact h.inside o h3 q h1 h2
    · have : o = mkIns s p := by simpa using h3
      subst this
      rw [hkeep q h2]
      exact hin q h1 h2
  · intro q
    by_cases hfl : Flows (mkIns s p) q
    · rw [(hf q hfl).2.2.2]
      have := h.low p
      omega
    · rw [hH q hfl]; exact h.low q
  · intro q
    by_cases hfl : Flows (mkIns s p) q
    · rw [(hf q hfl).2.2.2]
      exact (hf q hfl).2.1
    · rw [hH q hfl]; exact h.high q
/-- Ahead of the first operation. -/
theorem found_start (s : ByteArray) (most : Nat) : Found s most (fun q => if q = 3 then 0 else -1) 3 [] := by
  refine ⟨rfl, by simp, ?_, by simp, by simp, ?_, ?_⟩
  · intro q hq
    by_cases h : q = 3
    · exact .inl h
    · simp [h] at hq
  · intro q; by_cases h : q = 3 <;> simp [h]
  · intro q; by_cases h : q = 3 <;> simp [h]
end Go.Proofs.YtkbbdfeobcklhaaGreatDoor
