/-
  Images of known making: blocks of operations that lay one number: what they do, and their heights; plain.
-/
import Derived.Test.YtjjbmbjmdgoofaaGreatDoorG20
set_option linter.unusedVariables false
set_option linter.unusedSimpArgs false
namespace Go.Proofs.YtjjbmbjmdgoofaaGreatDoor
open Go.RowKit
def Sits (s : ByteArray) (p : Nat) (c : List Nat) : Prop := ∀ i b, c[i]? = some b → p + i < s.size ∧ bt s (p + i) = b
theorem Sits.left {s : ByteArray} {p : Nat} {c d : List Nat} (h : Sits s p (c ++ d)) : Sits s p c := fun i b hi => h i b (by
  have hlt := (List.getElem?_eq_some_iff.1 hi).1
  rw [List.getElem?_append_left hlt]; exact hi)
theorem Sits.right {s : ByteArray} {p : Nat} {c d : List Nat} (h : Sits s p (c ++ d)) : Sits s (p + c.length) d := fun i b hi => by
  have := h (c.length + i) b (by rw [List.getElem?_append_right (by omega), show c.length + i - c.length = i by omega]; exact hi)
  rw [← Nat.add_assoc] at this
  exact this
def DoesSo (s : ByteArray) (x : Itm) (y : Bn) (p q : Nat) (v : Int) (flt steps : Nat) : Prop :=
  (flt = 0 ∧ ∀ f st n, runM s x y (f + steps) p st n = runM s x y f q (v :: st) (n + steps)) ∨
  (flt ≠ 0 ∧ ∀ f st n, steps ≤ f → runM s x y f p st n = (2, (flt : Int), n + steps))
theorem does_one {s : ByteArray} {x : Itm} {y : Bn} {p q : Nat} {v : Int} (h : ∀ st, stepM x y (mkIns s p) st = .inr (q, v :: st)) : DoesSo s x y p q v 0 1 :=
  Or.inl ⟨rfl, fun f st n => by rw [runM_go (h st)]⟩
theorem DoesSo.fault {s : ByteArray} {x : Itm} {y : Bn} {p q q' : Nat} {v v' : Int} {flt steps : Nat} (h : DoesSo s x y p q v flt steps) (hf : flt ≠ 0) : DoesSo s x y p q' v' flt steps := by
  rcases h with ⟨h0, _⟩ | h
  · exact absurd h0 hf
  · exact Or.inr h
theorem DoesSo.binary {s : ByteArray} {x : Itm} {y : Bn} {p q r e : Nat} {a b v : Int} {f1 k m : Nat} (h1 : DoesSo s x y p q a 0 k) (h2 : DoesSo s x y q r b 0 m) (hop : ∀ st, stepM x y (mkIns s r) (b :: a :: st) = layM (v, f1) e st) : DoesSo s x y p e v f1 (k + m + 1) := by
  rcases h1 with ⟨_, h1⟩ | ⟨h0, _⟩
  · rcases h2 with ⟨_, h2⟩ | ⟨h0, _⟩
    · by_cases hf : f1 = 0
      · subst hf
        refine Or.inl ⟨rfl, fun f st n => ?_⟩
        rw [show f + (k + m + 1) = ((f + 1) + m) + k by omega, h1, h2, runM_go (hop st)]
        congr 1
        omega
      · refine Or.inr ⟨hf, fun f st n hle => ?_⟩
        obtain ⟨f', rfl⟩ : ∃ f', f = ((f' + 1) + m) + k := ⟨f - k - m - 1, by omega⟩
        have : stepM x y (mkIns s r) (b :: a :: st) = .inl (2, (f1 : Int)) := by rw [hop st]; unfold layM; simp only [hf, if_false]
        rw [h1, h2, runM_end this]
        simp only [Nat.add_assoc]
    · exact absurd rfl h0
  · exact absurd rfl h0
theorem DoesSo.second {s : ByteArray} {x : Itm} {y : Bn} {p q r e : Nat} {a b v : Int} {f2 k m : Nat} (h1 : DoesSo s x y p q a 0 k) (h2 : DoesSo s x y q r b f2 m) (hf : f2 ≠ 0) : DoesSo s x y p e v f2 (k + m) := by
  rcases h1 with ⟨_, h1⟩ | ⟨h0, _⟩
  · rcases h2 with ⟨h0, _⟩ | ⟨_, h2⟩
    · exact absurd h0 hf
    · refine Or.inr ⟨hf, fun f st n hle => ?_⟩
      obtain ⟨f', rfl⟩ : ∃ f', f = f' + k := ⟨f - k, by omega⟩
      rw [h1, h2 f' (a :: st) (n + k) (by omega), Nat.add_assoc]
  · exact absurd rfl h0
end Go.Proofs.YtjjbmbjmdgoofaaGreatDoor
namespace Go.Proofs.YtjjbmbjmdgoofaaGreatDoor
open Go.RowKit
theorem Found.at {s : ByteArray} {most : Nat} {H : Nat → Int} {p : Nat} {l0 l : List Ins} (h : Found s most H p l0) (hp : p < s.size) (hc : Chain s 3 l s.size) :
    OpOkI s p ∧ ∃ r, l = l0 ++ mkIns s p :: r ∧ Chain s (mkIns s p).next r s.size := by
  obtain ⟨r, rfl, hr⟩ := h.chain.pre hc
  cases r with
  | nil => have : p = s.size := hr; omega
  | cons o r =>
    obtain ⟨h1, rfl, h3⟩ := hr
    exact ⟨h1, r, rfl, h3⟩
theorem Found.bad_op {s : ByteArray} {H : Nat → Int} {p : Nat} {l0 : List Ins} (h : Found s (bt s 2) H p l0) (hp : p < s.size) (hb : ¬ OpOkI s p) : ¬ IsImg s := by
  rintro ⟨_, l, hc, _⟩
  exact hb (h.at hp hc).1
theorem Found.bad_none {s : ByteArray} {H : Nat → Int} {p : Nat} {l0 : List Ins} (h : Found s (bt s 2) H p l0) (hp : p < s.size) (hb : H p = -1) : ¬ IsImg s := by
  rintro ⟨_, l, hc, G, hl⟩
  obtain ⟨h1, r, rfl, hr⟩ := h.at hp hc
  have hm : mkIns s p ∈ l0 ++ mkIns s p :: r := by simp
  obtain ⟨_, _, _, h4⟩ := hl.2 _ hm
  rcases h4 with h4 | ⟨o', ho', hf⟩
  · have : p = 3 := h4
    subst this
    rw [h.first] at hb
    omega
  · have hm' := hc.mem o' ho'
    have hlt : o'.pos < p := by rw [hm'.2.2.2] at hf; exact hf.lt
    have hin : o' ∈ l0 := by
      rcases List.mem_append.1 ho' with h5 | h5
      · exact h5
      · rcases List.mem_cons.1 h5 with rfl | h5
        · have : p < p := hlt
          omega
        · have := (hr.mem o' h5).1
          have h6 := next_pos s p
          omega
    obtain ⟨h7, _, h8⟩ := h.done o' hin
    have h9 := (h8 p hf).2
    omega
theorem Found.bad_low {s : ByteArray} {H : Nat → Int} {p : Nat} {l0 : List Ins} (h : Found s (bt s 2) H p l0) (hp : p < s.size) (hn : H p ≠ -1) (hb : H p < takesN (bt s p)) : ¬ IsImg s := by
  rintro ⟨_, l, hc, G, hl⟩
  have h2 := (h.agree hp hc hl (p + 1) p (by omega) hn).1
  obtain ⟨h1, r, rfl, hr⟩ := h.at hp hc
  have hm : mkIns s p ∈ l0 ++ mkIns s p :: r := by simp
  obtain ⟨h3, _⟩ := hl.2 _ hm
  simp only [mkIns] at h3
  omega
theorem Found.bad_inside {s : ByteArray} {H : Nat → Int} {p i : Nat} {l0 : List Ins} (h : Found s (bt s 2) H p l0) (hp : p < s.size) (h1 : p < i) (h2 : i < (mkIns s p).next) (hb : H i ≠ -1) : ¬ IsImg s := by
  rintro ⟨_, l, hc, G, hl⟩
  obtain ⟨_, o, ho, rfl⟩ := h.agree hp hc hl (i + 1) i (by omega) hb
  obtain ⟨_, r, rfl, hr⟩ := h.at hp hc
  have hm : mkIns s p ∈ l0 ++ mkIns s p :: r := by simp
  have h3 : (mkIns s p).pos < o.pos := h1
  have := hc.apart _ hm o ho h3
  omega
theorem Found.bad_flow {s : ByteArray} {H : Nat → Int} {p q : Nat} {l0 : List Ins} (h : Found s (bt s 2) H p l0) (hp : p < s.size) (hn : H p ≠ -1) (hf : Flows (mkIns s p) q)
    (hb : s.size ≤ q ∨ (bt s 2 : Int) < H p - takesN (bt s p) + laysN (bt s p) ∨ (H q ≠ -1 ∧ H q ≠ H p - takesN (bt s p) + laysN (bt s p))) : ¬ IsImg s := by
  rintro ⟨_, l, hc, G, hl⟩
  have h2 := (h.agree hp hc hl (p + 1) p (by omega) hn).1
  have hag := h.agree hp hc hl (q + 1) q (by omega)
  obtain ⟨_, r, rfl, hr⟩ := h.at hp hc
  have hm : mkIns s p ∈ l0 ++ mkIns s p :: r := by simp
  obtain ⟨_, _, h3, _⟩ := hl.2 _ hm
  obtain ⟨⟨o', ho', rfl⟩, h4⟩ := h3 q hf
  have h5 := (hc.mem o' ho').2.2.1.1
  obtain ⟨_, h6, _⟩ := hl.2 o' ho'
  simp only [mkIns] at h4
  rcases hb with hb | hb | ⟨hb, hb'⟩
  · omega
  · omega
  · have := (hag hb).1
    omega
theorem Found.step {s : ByteArray} {most : Nat} {H H' : Nat → Int} {p : Nat} {l0 : List Ins} (h : Found s most H p l0) (ho : OpOkI s p) (ht : (takesN (bt s p) : Int) ≤ H p)
    (hin : ∀ i, p < i → i < (mkIns s p).next → H i = -1)
    (hf : ∀ q, Flows (mkIns s p) q → q < s.size ∧ H p - takesN (bt s p) + laysN (bt s p) ≤ most ∧ (H q = -1 ∨ H q = H p - takesN (bt s p) + laysN (bt s p)) ∧ H' q = H p - takesN (bt s p) + laysN (bt s p))
    (hH : ∀ q, ¬ Flows (mkIns s p) q → H' q = H q) :
    Found s most H' (mkIns s p).next (l0 ++ [mkIns s p]) := by
  have hkeep : ∀ q, q < (mkIns s p).next → H' q = H q := fun q hq => hH q (fun hfl => by have := hfl.le; omega)
  have hpn := next_pos s p
  have h3p := h.chain.le
  have hcov : ∀ q, H q ≠ -1 → H' q = H q := by
    intro q hq
    by_cases hfl : Flows (mkIns s p) q
    · obtain ⟨_, _, h1, h2⟩ := hf q hfl
      rcases h1 with h1 | h1
      · exact absurd h1 hq
      · rw [h1, h2]
    · exact hH q hfl
  have hpos : ∀ o ∈ l0, H' o.pos = H o.pos := fun o ho' => hcov _ (by have := (h.done o ho').1; omega)
  have hp' : H' p = H p := hkeep p hpn
  refine ⟨h.chain.snoc ho, ?_, ?_, ?_, ?_, ?_, ?_⟩
  · rw [hkeep 3 (by omega), h.first]
  · intro q hq
    by_cases hfl : Flows (mkIns s p) q
    · exact .inr ⟨mkIns s p, by simp, hfl, by
        rw [(hf q hfl).2.2.2]
        show _ = H' p - takesN (bt s p) + laysN (bt s p)
        rw [hp']⟩
    · rw [hH q hfl] at hq
      rcases h.src q hq with h1 | ⟨o, ho', hfo, he⟩
      · exact .inl h1
      · exact .inr ⟨o, List.mem_append_left _ ho', hfo, by rw [hH q hfl, hpos o ho', he]⟩
  · intro o ho'
    rcases List.mem_append.1 ho' with h1 | h1
    · obtain ⟨h2, h3, h4⟩ := h.done o h1
      rw [hpos o h1]
      refine ⟨h2, h3, fun q hq => ?_⟩
      obtain ⟨h5, h6⟩ := h4 q hq
      exact ⟨h5, by rw [hcov q (by omega), h6]⟩
    · have : o = mkIns s p := by simpa using h1
      subst this
      show (takesN (bt s p) : Int) ≤ H' p ∧ H' p ≤ most ∧ ∀ q, Flows (mkIns s p) q → q < s.size ∧ H' q = H' p - takesN (bt s p) + laysN (bt s p)
      rw [hp']
      exact ⟨ht, h.high p, fun q hq => ⟨(hf q hq).1, (hf q hq).2.2.2⟩⟩
  · intro o ho' q h1 h2
    rcases List.mem_append.1 ho' with h3 | h3
    · have h4 := (h.chain.mem o h3).2.1
      rw [hkeep q (by omega)]
      exact h.inside o h3 q h1 h2
    · have : o = mkIns s p := by simpa using h3
      subst this
      rw [hkeep q h2]
      exact hin q h1 h2
  · intro q
    by_cases hfl : Flows (mkIns s p) q
    · rw [(hf q hfl).2.2.2]
      have := h.low p
      omega
    · rw [hH q hfl]; exact h.low q
  · intro q
    by_cases hfl : Flows (mkIns s p) q
    · rw [(hf q hfl).2.2.2]
      exact (hf q hfl).2.1
    · rw [hH q hfl]; exact h.high q
theorem found_start (s : ByteArray) (most : Nat) : Found s most (fun q => if q = 3 then 0 else -1) 3 [] := by
  refine ⟨rfl, by simp, ?_, by simp, by simp, ?_, ?_⟩
  · intro q hq
    by_cases h : q = 3
    · exact .inl h
    · simp [h] at hq
  · intro q; by_cases h : q = 3 <;> simp [h]
  · intro q; by_cases h : q = 3 <;> simp [h]
end Go.Proofs.YtjjbmbjmdgoofaaGreatDoor
namespace Go.Proofs.YtjjbmbjmdgoofaaGreatDoor
open Go.RowKit
structure Seg (s : ByteArray) (p q : Nat) (h e hi : Int) (l : List Ins) (H : Nat → Int) : Prop where
  chain : Chain s p l q
  start : H p = h
  fin : H q = e
  ops : ∀ o ∈ l, (takesN o.op : Int) ≤ H o.pos ∧ H o.pos ≤ hi ∧ ∀ r, Flows o r → (r = q ∨ ∃ o' ∈ l, o'.pos = r) ∧ H r = H o.pos - takesN o.op + laysN o.op
  reach : ∀ o ∈ l, o.pos = p ∨ ∃ o' ∈ l, Flows o' o.pos
  out : ∃ o ∈ l, Flows o q
  ends : e ≤ hi
  top : (∃ o ∈ l, H o.pos = hi) ∨ e = hi
theorem Seg.lt {s : ByteArray} {p q : Nat} {h e hi : Int} {l : List Ins} {H : Nat → Int} (g : Seg s p q h e hi l H) : p < q := by
  obtain ⟨o, ho, hf⟩ := g.out
  have hm := g.chain.mem o ho
  rw [hm.2.2.2] at hf
  have := hf.lt
  omega
theorem Seg.first {s : ByteArray} {p q : Nat} {h e hi : Int} {l : List Ins} {H : Nat → Int} (g : Seg s p q h e hi l H) : ∃ o ∈ l, o.pos = p := by
  obtain ⟨o, ho, h1, h2⟩ := g.chain.cover p (Nat.le_refl _) g.lt
  exact ⟨o, ho, by have := (g.chain.mem o ho).1; omega⟩
theorem Seg.before {s : ByteArray} {p q : Nat} {h e hi : Int} {l : List Ins} {H : Nat → Int} (g : Seg s p q h e hi l H) {o : Ins} (ho : o ∈ l) : p ≤ o.pos ∧ o.pos < q := by
  have hm := g.chain.mem o ho
  have := next_pos s o.pos
  rw [← hm.2.2.2] at this
  omega
theorem seg_op {s : ByteArray} {p : Nat} {h : Int} (ho : OpOkI s p) (ht : (takesN (bt s p) : Int) ≤ h) (hf : ∀ r, Flows (mkIns s p) r ↔ r = (mkIns s p).next) :
    Seg s p (mkIns s p).next h (h - takesN (bt s p) + laysN (bt s p)) (max h (h - takesN (bt s p) + laysN (bt s p))) [mkIns s p] (fun x => if x = p then h else h - takesN (bt s p) + laysN (bt s p)) := by
  have hn := next_pos s p
  have hne : ¬ ((mkIns s p).next = p) := by omega
  refine ⟨⟨ho, rfl, rfl⟩, by simp, by simp [hne], ?_, ?_, ⟨_, by simp, (hf _).2 rfl⟩, by omega, ?_⟩
  · intro o hm
    obtain rfl : o = mkIns s p := by simpa using hm
    refine ⟨?_, ?_, fun r hr => ?_⟩
    · show (takesN (bt s p) : Int) ≤ (if p = p then h else _); simpa using ht
    · show (if p = p then h else _) ≤ _; simp; omega
    · obtain rfl := (hf r).1 hr
      refine ⟨.inl rfl, ?_⟩
      show (if (mkIns s p).next = p then h else _) = (if p = p then h else _) - takesN (bt s p) + laysN (bt s p)
      simp [hne]
  · intro o hm
    obtain rfl : o = mkIns s p := by simpa using hm
    exact .inl rfl
  · by_cases hc : h - takesN (bt s p) + laysN (bt s p) ≤ h
    · exact .inl ⟨mkIns s p, by simp, by show (if p = p then h else _) = _; simp; omega⟩
    · exact .inr (by omega)
theorem Seg.seq {s : ByteArray} {p q r : Nat} {h e f hi1 hi2 : Int} {l1 l2 : List Ins} {H1 H2 : Nat → Int} (g1 : Seg s p q h e hi1 l1 H1) (g2 : Seg s q r e f hi2 l2 H2) :
    Seg s p r h f (max hi1 hi2) (l1 ++ l2) (fun x => if x < q then H1 x else H2 x) := by
  have hpq := g1.lt
  have hqr := g2.lt
  have e1 : ∀ o ∈ l1, (if o.pos < q then H1 o.pos else H2 o.pos) = H1 o.pos := fun o ho => if_pos (g1.before ho).2
  have e2 : ∀ o ∈ l2, (if o.pos < q then H1 o.pos else H2 o.pos) = H2 o.pos := fun o ho => if_neg (by have := (g2.before ho).1; omega)
  obtain ⟨o2, ho2, hp2⟩ := g2.first
  refine ⟨g1.chain.append g2.chain, by simp [hpq, g1.start], ?_, ?_, ?_, ?_, ?_, ?_⟩
  · show (if r < q then H1 r else H2 r) = f
    rw [if_neg (by omega), g2.fin]
  · intro o ho
    rcases List.mem_append.1 ho with h1 | h1
    · obtain ⟨a1, a2, a3⟩ := g1.ops o h1
      show _ ≤ (if o.pos < q then H1 o.pos else H2 o.pos) ∧ (if o.pos < q then H1 o.pos else H2 o.pos) ≤ _ ∧ ∀ t, Flows o t → _ ∧ (if t < q then H1 t else H2 t) = (if o.pos < q then H1 o.pos else H2 o.pos) - _ + _
      rw [e1 o h1]
      refine ⟨a1, by omega, fun t ht => ?_⟩
      obtain ⟨b1, b2⟩ := a3 t ht
      rcases b1 with rfl | ⟨o', ho', rfl⟩
      · refine ⟨.inr ⟨o2, List.mem_append_right _ ho2, hp2⟩, ?_⟩
        rw [if_neg (by omega), g2.start, ← b2, g1.fin]
      · refine ⟨.inr ⟨o', List.mem_append_left _ ho', rfl⟩, ?_⟩
        rw [if_pos (g1.before ho').2, b2]
    · obtain ⟨a1, a2, a3⟩ := g2.ops o h1
      show _ ≤ (if o.pos < q then H1 o.pos else H2 o.pos) ∧ (if o.pos < q then H1 o.pos else H2 o.pos) ≤ _ ∧ ∀ t, Flows o t → _ ∧ (if t < q then H1 t else H2 t) = (if o.pos < q then H1 o.pos else H2 o.pos) - _ + _
      rw [e2 o h1]
      refine ⟨a1, by omega, fun t ht => ?_⟩
      obtain ⟨b1, b2⟩ := a3 t ht
      rcases b1 with rfl | ⟨o', ho', rfl⟩
      · exact ⟨.inl rfl, by rw [if_neg (by omega), b2]⟩
      · exact ⟨.inr ⟨o', List.mem_append_right _ ho', rfl⟩, by rw [if_neg (by have := (g2.before ho').1; omega), b2]⟩
  · intro o ho
    rcases List.mem_append.1 ho with h1 | h1
    · rcases g1.reach o h1 with h2 | ⟨o', ho', hf⟩
      · exact .inl h2
      · exact .inr ⟨o', List.mem_append_left _ ho', hf⟩
    · rcases g2.reach o h1 with h2 | ⟨o', ho', hf⟩
      · obtain ⟨o', ho', hf⟩ := g1.out
        exact .inr ⟨o', List.mem_append_left _ ho', by rw [h2]; exact hf⟩
      · exact .inr ⟨o', List.mem_append_right _ ho', hf⟩
  · obtain ⟨o', ho', hf⟩ := g2.out
    exact ⟨o', List.mem_append_right _ ho', hf⟩
  · have := g2.ends; omega
  · by_cases hc : hi2 ≤ hi1
    · refine .inl ?_
      rcases g1.top with ⟨o, ho, he⟩ | he
      · exact ⟨o, List.mem_append_left _ ho, by rw [e1 o ho, he]; omega⟩
      · exact ⟨o2, List.mem_append_right _ ho2, by rw [e2 o2 ho2, hp2, g2.start, he]; omega⟩
    · rcases g2.top with ⟨o, ho, he⟩ | he
      · exact .inl ⟨o, List.mem_append_right _ ho, by rw [e2 o ho, he]; omega⟩
      · exact .inr (by omega)
theorem Seg.lawful {s : ByteArray} {q : Nat} {e hi : Int} {l : List Ins} {H : Nat → Int} {most : Nat} (g : Seg s 3 q 0 e hi l H) (ho : OpOkI s q) (hk : bt s q = 16 ∨ bt s q = 17) (ht : (takesN (bt s q) : Int) ≤ e) (hm : hi ≤ most) : Lawful (l ++ [mkIns s q]) most H := by
  have he := g.ends
  refine ⟨g.start, fun o hmem => ?_⟩
  rcases List.mem_append.1 hmem with h1 | h1
  · obtain ⟨a1, a2, a3⟩ := g.ops o h1
    refine ⟨a1, by omega, fun r hr => ?_, ?_⟩
    · obtain ⟨b1, b2⟩ := a3 r hr
      refine ⟨?_, b2⟩
      rcases b1 with rfl | ⟨o', ho', hp⟩
      · exact ⟨mkIns s r, by simp, rfl⟩
      · exact ⟨o', List.mem_append_left _ ho', hp⟩
    · rcases g.reach o h1 with h2 | ⟨o', ho', hf⟩
      · exact .inl h2
      · exact .inr ⟨o', List.mem_append_left _ ho', hf⟩
  · obtain rfl : o = mkIns s q := by simpa using h1
    refine ⟨by show _ ≤ H q; rw [g.fin]; exact ht, by show H q ≤ _; rw [g.fin]; omega, fun r hr => ?_, ?_⟩
    · exfalso
      rcases hr with ⟨_, h2, h3, _⟩ | ⟨h2, _⟩
      · simp only [mkIns] at h2 h3; omega
      · simp only [mkIns] at h2; omega
    · obtain ⟨o', ho', hf⟩ := g.out
      exact .inr ⟨o', List.mem_append_left _ ho', hf⟩
end Go.Proofs.YtjjbmbjmdgoofaaGreatDoor
namespace Go.Proofs.YtjjbmbjmdgoofaaGreatDoor
open Go.RowKit
structure PB where
  code : List Nat
  v : Int
  flt : Nat
  steps : Nat
  high : Nat
structure PB.Ok (x : Itm) (y : Bn) (b : PB) : Prop where
  does : ∀ s p, Sits s p b.code → DoesSo s x y p (p + b.code.length) b.v b.flt b.steps
  seg : ∀ s p (h : Int), Sits s p b.code → 0 ≤ h → ∃ l H, Seg s p (p + b.code.length) h (h + 1) (h + b.high) l H
  num : In64 b.v
  le2 : b.flt ≤ 2
  pos : 1 ≤ b.high
theorem Sits.at {s : ByteArray} {p : Nat} {c : List Nat} (h : Sits s p c) {i b : Nat} (hi : c[i]? = some b) : bt s (p + i) = b := (h i b hi).2
theorem Sits.head {s : ByteArray} {p b : Nat} {c : List Nat} (h : Sits s p (b :: c)) : p < s.size ∧ bt s p = b := by
  have := h 0 b rfl
  simpa using this
theorem Seg.cast {s : ByteArray} {p q q' : Nat} {h e e' hi hi' : Int} {l : List Ins} {H : Nat → Int} (g : Seg s p q h e hi l H) (hq : q = q') (he : e = e') (hh : hi = hi') : Seg s p q' h e' hi' l H := by subst hq; subst he; subst hh; exact g
theorem bare_op {s : ByteArray} {p n : Nat} (hs : Sits s p [n]) (hn : 2 ≤ n ∧ n ≤ 12) : OpOkI s p ∧ (mkIns s p).next = p + 1 ∧ bt s p = n ∧ (mkIns s p).op = n := by
  obtain ⟨h1, h2⟩ := hs.head
  have hb : behindN n = 0 := by unfold behindN; rw [if_neg (by omega), if_neg (by omega), if_neg (by omega)]
  refine ⟨⟨h1, by omega, by rw [h2, hb]; omega, by omega⟩, by simp only [mkIns, h2, hb], h2, h2⟩
theorem bare_flows {s : ByteArray} {p n : Nat} (hb : bt s p = n) (hn : 2 ≤ n ∧ n ≤ 12) : ∀ r, Flows (mkIns s p) r ↔ r = (mkIns s p).next := by
  have hop : (mkIns s p).op = n := hb
  intro r
  constructor
  · rintro (⟨_, _, _, h⟩ | ⟨h, _⟩)
    · exact h
    · rw [hop] at h; omega
  · intro h
    exact .inl ⟨by omega, by omega, by omega, h⟩
end Go.Proofs.YtjjbmbjmdgoofaaGreatDoor
namespace Go.Proofs.YtjjbmbjmdgoofaaGreatDoor
open Go.RowKit
def maxN (a b : Nat) : Nat := if b ≤ a then a else b
def twoP (n : Nat) (p q : PB) : PB :=
  if p.flt ≠ 0 then { code := p.code ++ q.code ++ [n], v := 0, flt := p.flt, steps := p.steps, high := maxN p.high (q.high + 1) }
  else if q.flt ≠ 0 then { code := p.code ++ q.code ++ [n], v := 0, flt := q.flt, steps := p.steps + q.steps, high := maxN p.high (q.high + 1) }
  else { code := p.code ++ q.code ++ [n], v := (joinN n p.v q.v).1, flt := (joinN n p.v q.v).2, steps := p.steps + q.steps + 1, high := maxN p.high (q.high + 1) }
theorem two_seg {s : ByteArray} {a n : Nat} {h : Int} {p q : PB} {x : Itm} {y : Bn} (hp : p.Ok x y) (hq : q.Ok x y) (hn : 4 ≤ n ∧ n ≤ 12) (hs : Sits s a (p.code ++ q.code ++ [n])) (hh : 0 ≤ h) : ∃ l H, Seg s a (a + (p.code ++ q.code ++ [n]).length) h (h + 1) (h + (maxN p.high (q.high + 1) : Nat)) l H := by
  obtain ⟨l1, H1, g1⟩ := hp.seg s a h hs.left.left hh
  obtain ⟨l2, H2, g2⟩ := hq.seg s (a + p.code.length) (h + 1) hs.left.right (by omega)
  have hs3 := hs.right
  rw [List.length_append, ← Nat.add_assoc] at hs3
  obtain ⟨h1, h2, h3, h4⟩ := bare_op hs3 (by omega)
  have ht : takesN n = 2 ∧ laysN n = 1 := ⟨by unfold takesN; rw [if_neg (by omega), if_neg (by omega)], by unfold laysN; rw [if_neg (by omega)]⟩
  have g3 := seg_op (h := h + 1 + 1) h1 (by rw [h3, ht.1]; omega) (bare_flows h3 (by omega))
  rw [h3, ht.1, ht.2] at g3
  have e1 := hp.pos
  have e2 := hq.pos
  refine ⟨_, _, ((g1.seq g2).seq g3).cast (by rw [h2]; simp; omega) (by omega) ?_⟩
  unfold maxN
  split <;> omega
theorem twoP_ok {x : Itm} {y : Bn} {p q : PB} (hp : p.Ok x y) (hq : q.Ok x y) {n : Nat} (hn : 4 ≤ n ∧ n ≤ 12) : (twoP n p q).Ok x y := by
  have hpos : 1 ≤ maxN p.high (q.high + 1) := by have := hp.pos; unfold maxN; split <;> omega
  by_cases hf : p.flt ≠ 0
  · have e : twoP n p q = { code := p.code ++ q.code ++ [n], v := 0, flt := p.flt, steps := p.steps, high := maxN p.high (q.high + 1) } := by unfold twoP; rw [if_pos hf]
    rw [e]
    exact ⟨fun s a hs => (hp.does s a hs.left.left).fault hf, fun s a h hs hh => two_seg hp hq hn hs hh, (by decide : In64 (0 : Int)), hp.le2, hpos⟩
  have hf0 : p.flt = 0 := by omega
  have hd : ∀ s a, Sits s a (p.code ++ q.code ++ [n]) → DoesSo s x y a (a + p.code.length) p.v 0 p.steps := fun s a hs => by have := hp.does s a hs.left.left; rw [hf0] at this; exact this
  by_cases hg : q.flt ≠ 0
  · have e : twoP n p q = { code := p.code ++ q.code ++ [n], v := 0, flt := q.flt, steps := p.steps + q.steps, high := maxN p.high (q.high + 1) } := by unfold twoP; rw [if_neg hf, if_pos hg]
    rw [e]
    exact ⟨fun s a hs => (hd s a hs).second (hq.does s _ hs.left.right) hg, fun s a h hs hh => two_seg hp hq hn hs hh, (by decide : In64 (0 : Int)), hq.le2, hpos⟩
  have hg0 : q.flt = 0 := by omega
  have e : twoP n p q = { code := p.code ++ q.code ++ [n], v := (joinN n p.v q.v).1, flt := (joinN n p.v q.v).2, steps := p.steps + q.steps + 1, high := maxN p.high (q.high + 1) } := by unfold twoP; rw [if_neg hf, if_neg hg]
  rw [e]
  refine ⟨fun s a hs => ?_, fun s a h hs hh => two_seg hp hq hn hs hh, join_in _ _ _ hp.num hq.num, ?_, hpos⟩
  · have h2 := hq.does s _ hs.left.right
    rw [hg0] at h2
    have hs3 := hs.right
    rw [List.length_append, ← Nat.add_assoc] at hs3
    obtain ⟨h1, h2', h3, h4⟩ := bare_op hs3 (by omega)
    refine (hd s a hs).binary h2 (fun st => ?_)
    have : a + (p.code ++ q.code ++ [n]).length = (mkIns s (a + p.code.length + q.code.length)).next := by rw [h2']; simp; omega
    rw [this]
    unfold stepM
    rw [h4, if_neg (by omega), if_neg (by omega), if_neg (by omega), if_neg (by omega), if_neg (by omega), if_neg (by omega), if_neg (by omega), if_neg (by omega), if_neg (by omega)]
    rfl
  · have e2 : ∀ v, (exact64 v).2 ≤ 2 := fun v => by unfold exact64; split <;> simp
    show (joinN n p.v q.v).2 ≤ 2
    unfold joinN
    (repeat' split) <;> first | exact e2 _ | simp
end Go.Proofs.YtjjbmbjmdgoofaaGreatDoor
