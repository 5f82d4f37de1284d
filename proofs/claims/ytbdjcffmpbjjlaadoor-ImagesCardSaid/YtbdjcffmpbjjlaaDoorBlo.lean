/-
  Images of known making: blocks of operations that lay one number: what they do, and their heights; plain.
-/
import Derived.Test.YtbdjcffmpbjjlaaDoorMach
set_option linter.unusedVariables false
set_option linter.unusedSimpArgs false
namespace Go.Proofs.YtbdjcffmpbjjlaaDoor
open Go.RowKit

/-- These bytes stand at a place. -/
def Sits (s : ByteArray) (p : Nat) (c : List Nat) : Prop := ∀ i b, c[i]? = some b → p + i < s.size ∧ bt s (p + i) = b
theorem Sits.left {s : ByteArray} {p : Nat} {c d : List Nat} (h : Sits s p (c ++ d)) : Sits s p c := fun i b hi => h i b (by
  have hlt := (List.getElem?_eq_some_iff.1 hi).1
  rw [List.getElem?_append_left hlt]; exact hi)
theorem Sits.right {s : ByteArray} {p : Nat} {c d : List Nat} (h : Sits s p (c ++ d)) : Sits s (p + c.length) d := fun i b hi => by
  have := h (c.length + i) b (by rw [List.getElem?_append_right (by omega), show c.length + i - c.length = i by omega]; exact hi)
  rw [← Nat.add_assoc] at this
  exact this
/-- What a block does from its place, whatever lies on the stack: it lays its number; or it faults; in so many steps. -/
def DoesSo (s : ByteArray) (x : Itm) (y : Bn) (p q : Nat) (v : Int) (flt steps : Nat) : Prop :=
  (flt = 0 ∧ ∀ f st n, runM s x y (f + steps) p st n = runM s x y f q (v :: st) (n + steps)) ∨
  (flt ≠ 0 ∧ ∀ f st n, steps ≤ f → runM s x y f p st n = (2, (flt : Int), n + steps))
theorem does_one {s : ByteArray} {x : Itm} {y : Bn} {p q : Nat} {v : Int} (h : ∀ st, stepM x y (mkIns s p) st = .inr (q, v :: st)) : DoesSo s x y p q v 0 1 :=
  Or.inl ⟨rfl, fun f st n => by rw [runM_go (h st)]⟩
/-- A fault ahead is the whole one's. -/
theorem DoesSo.fault {s : ByteArray} {x : Itm} {y : Bn} {p q q' : Nat} {v v' : Int} {flt steps : Nat} (h : DoesSo s x y p q v flt steps) (hf : flt ≠ 0) : DoesSo s x y p q' v' flt steps := by
  rcases h with ⟨h0, _⟩ | h
  · exact absurd h0 hf
  · exact Or.inr h
/-- An operation of one number behind a block. -/
theorem DoesSo.unary {s : ByteArray} {x : Itm} {y : Bn} {p q r : Nat} {a v : Int} {f1 k : Nat} (h : DoesSo s x y p q a 0 k) (hop : ∀ st, stepM x y (mkIns s q) (a :: st) = layM (v, f1) r st) : DoesSo s x y p r v f1 (k + 1) := by
  rcases h with ⟨_, h⟩ | ⟨h0, _⟩
  · by_cases hf : f1 = 0
    · subst hf
      refine Or.inl ⟨rfl, fun f st n => ?_⟩
      rw [show f + (k + 1) = (f + 1) + k by omega, h (f + 1) st n, runM_go (hop st), Nat.add_assoc]
    · refine Or.inr ⟨hf, fun f st n hle => ?_⟩
      obtain ⟨f', rfl⟩ : ∃ f', f = (f' + 1) + k := ⟨f - k - 1, by omega⟩
      rw [h (f' + 1) st n]
      have : stepM x y (mkIns s q) (a :: st) = .inl (2, (f1 : Int)) := by rw [hop st]; unfold layM; simp only [hf, if_false]
      rw [runM_end this, Nat.add_assoc]
  · exact absurd rfl h0
/-- Two blocks and an operation of two numbers behind them. -/
theorem DoesSo.binary {s : ByteArray} {x : Itm} {y : Bn} {p q r e : Nat} {a b v : Int} {f1 k m : Nat} (h1 : DoesSo s x y p q a 0 k) (h2 : DoesSo s x y q r b 0 m) (hop : ∀ st, stepM x y (mkIns s r) (b :: a :: st) = layM (v, f1) e st) : DoesSo s x y p e v f1 (k + m + 1) := by
  rcases h1 with ⟨_, h1⟩ | ⟨h0, _⟩
  · rcases h2 with ⟨_, h2⟩ | ⟨h0, _⟩
    · by_cases hf : f1 = 0
      · subst hf
        refine Or.inl ⟨rfl, fun f st n => ?_⟩
        rw [show f + (k + m + 1) = ((f + 1) + m) + k by omega, h1, h2, runM_go (hop st)]
        congr 1
        omega
      · refine Or.inr ⟨hf, fun f st n hle => ?_⟩
        obtain ⟨f', rfl⟩ : ∃ f', f = ((f' + 1) + m) + k := ⟨f - k - m - 1, by omega⟩
        have : stepM x y (mkIns s r) (b :: a :: st) = .inl (2, (f1 : Int)) := by rw [hop st]; unfold layM; simp only [hf, if_false]
        rw [h1, h2, runM_end this]
        simp only [Nat.add_assoc]
    · exact absurd rfl h0
  · exact absurd rfl h0
/-- The second of two blocks faults. -/
theorem DoesSo.second {s : ByteArray} {x : Itm} {y : Bn} {p q r e : Nat} {a b v : Int} {f2 k m : Nat} (h1 : DoesSo s x y p q a 0 k) (h2 : DoesSo s x y q r b f2 m) (hf : f2 ≠ 0) : DoesSo s x y p e v f2 (k + m) := by
  rcases h1 with ⟨_, h1⟩ | ⟨h0, _⟩
  · rcases h2 with ⟨h0, _⟩ | ⟨_, h2⟩
    · exact absurd h0 hf
    · refine Or.inr ⟨hf, fun f st n hle => ?_⟩
      obtain ⟨f', rfl⟩ : ∃ f', f = f' + k := ⟨f - k, by omega⟩
      rw [h1, h2 f' (a :: st) (n + k) (by omega), Nat.add_assoc]
  · exact absurd rfl h0
/-- A choice that goes to a block (the one behind, which then leaves out the other; or the other). -/
theorem DoesSo.goTo {s : ByteArray} {x : Itm} {y : Bn} {p q t e : Nat} {a v : Int} {f2 k m : Nat} (h1 : DoesSo s x y p q a 0 k) (hop : ∀ st, stepM x y (mkIns s q) (a :: st) = .inr (t, st)) (h2 : DoesSo s x y t e v f2 m) : DoesSo s x y p e v f2 (k + 1 + m) := by
  rcases h1 with ⟨_, h1⟩ | ⟨h0, _⟩
  · rcases h2 with ⟨h0, h2⟩ | ⟨hf, h2⟩
    · subst h0
      refine Or.inl ⟨rfl, fun f st n => ?_⟩
      rw [show f + (k + 1 + m) = ((f + m) + 1) + k by omega, h1, runM_go (hop st), h2]
      congr 1
      omega
    · refine Or.inr ⟨hf, fun f st n hle => ?_⟩
      obtain ⟨f', rfl⟩ : ∃ f', f = (f' + 1) + k := ⟨f - k - 1, by omega⟩
      rw [h1, runM_go (hop st), h2 f' st (n + k + 1) (by omega)]
      simp only [Nat.add_assoc]
  · exact absurd rfl h0
/-- A block with a Jump behind it. -/
theorem DoesSo.over {s : ByteArray} {x : Itm} {y : Bn} {p q e : Nat} {v : Int} {k : Nat} (h : DoesSo s x y p q v 0 k) (hop : ∀ st, stepM x y (mkIns s q) st = .inr (e, st)) : DoesSo s x y p e v 0 (k + 1) := by
  rcases h with ⟨_, h⟩ | ⟨h0, _⟩
  · refine Or.inl ⟨rfl, fun f st n => ?_⟩
    rw [show f + (k + 1) = (f + 1) + k by omega, h, runM_go (hop (v :: st)), Nat.add_assoc]
  · exact absurd rfl h0
end Go.Proofs.YtbdjcffmpbjjlaaDoor
