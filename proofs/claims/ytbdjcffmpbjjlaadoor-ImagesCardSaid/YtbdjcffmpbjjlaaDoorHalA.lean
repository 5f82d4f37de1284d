/-
  What is known of any image's run: how it ends, and within how many steps. And the image that rejects.
-/
import Derived.Test.YtbdjcffmpbjjlaaDoorBlu
import Derived.Test.YtbdjcffmpbjjlaaDoorRunO
set_option linter.unusedVariables false
set_option linter.unusedSimpArgs false
namespace Go.Proofs.YtbdjcffmpbjjlaaDoor
open Go.RowKit

/-- How a run may end. -/
def EndOk (k : Nat) (v : Int) : Prop := (k = 0 ∧ v = 0) ∨ (k = 2 ∧ (v = 1 ∨ v = 2)) ∨ k = 1
theorem exact_flt (v : Int) : (exact64 v).2 = 0 ∨ (exact64 v).2 = 1 := by unfold exact64; split <;> simp
theorem join_flt (c : Nat) (a b : Int) : (joinN c a b).2 = 0 ∨ (joinN c a b).2 = 1 ∨ (joinN c a b).2 = 2 := by
  have h1 := exact_flt (a + b)
  have h2 := exact_flt (a - b)
  have h3 := exact_flt (a * b)
  have h4 := exact_flt (a.tdiv b)
  unfold joinN
  repeat' split
  all_goals first | (simp; done) | omega
theorem lay_end {r : Int × Nat} {p : Nat} {st : List Int} {k : Nat} {v : Int} (hr : r.2 = 0 ∨ r.2 = 1 ∨ r.2 = 2) (h : layM r p st = .inl (k, v)) : EndOk k v := by
  unfold layM at h
  split at h
  · cases h
  · simp only [Sum.inl.injEq, Prod.mk.injEq] at h
    obtain ⟨rfl, rfl⟩ := h
    exact .inr (.inl ⟨rfl, by omega⟩)
theorem step_end {x : Itm} {y : Bn} {o : Ins} {st : List Int} {k : Nat} {v : Int} (h : stepM x y o st = .inl (k, v)) : EndOk k v := by
  unfold stepM at h
  split at h
  · simp only [Sum.inl.injEq, Prod.mk.injEq] at h
    exact .inr (.inr h.1.symm)
  split at h
  · simp only [Sum.inl.injEq, Prod.mk.injEq] at h
    exact .inl ⟨h.1.symm, h.2.symm⟩
  split at h
  · cases h
  split at h
  · cases h
  split at h
  · exact lay_end (by have := exact_flt (0 - fst st); unfold negN; omega) h
  split at h
  · cases h
  split at h
  · cases h
  split at h
  · cases h
  split at h
  · cases h
  exact lay_end (join_flt _ _ _) h
theorem run_ends {s : ByteArray} {l : List Ins} {most : Nat} {G : Nat → Int} {x : Itm} {y : Bn} (hx : x.Ok) (hy : y.Ok) : ∀ (f p : Nat) (st : List Int) (n : Nat), AtStep s l most G p st → s.size < f + p → n + 3 ≤ p →
    ∃ k v m, runM s x y f p st n = (k, v, m) ∧ EndOk k v ∧ n + 1 ≤ m ∧ m + 3 ≤ s.size
  | 0, p, st, n, h, hf, _ => by have := h.ok.1; omega
  | f + 1, p, st, n, h, hf, hn => by
    have hp := h.ok.1
    cases hs : stepM x y (mkIns s p) st with
    | inl r =>
      obtain ⟨k, v⟩ := r
      exact ⟨k, v, n + 1, runM_end hs, step_end hs, Nat.le_refl _, by omega⟩
    | inr r =>
      obtain ⟨q, st'⟩ := r
      obtain ⟨h1, h2⟩ := h.go hx hy hs
      obtain ⟨k, v, m, e, h3, h4, h5⟩ := run_ends hx hy f q st' (n + 1) h1 (by omega) (by omega)
      exact ⟨k, v, m, (runM_go hs).trans e, h3, by omega, h5⟩
theorem img_ends {s : ByteArray} (hi : IsImg s) {x : Itm} {y : Bn} (hx : x.Ok) (hy : y.Ok) : ∃ k v m, runM s x y (s.size + 1) 3 [] 0 = (k, v, m) ∧ EndOk k v ∧ 1 ≤ m ∧ m + 3 ≤ s.size := by
  obtain ⟨l, G, hc, hl, h3, _⟩ := img_run hi
  obtain ⟨k, v, m, e, h1, h2, h4⟩ := run_ends hx hy (s.size + 1) 3 [] 0 (AtStep.start hc hl h3) (by omega) (by omega)
  exact ⟨k, v, m, e, h1, by omega, h4⟩
/-- The image that rejects. -/
theorem rej_img {s : ByteArray} (hs : Sits s 0 (imgC 0 [17])) (hz : s.size = 4) : IsImg s := by
  obtain ⟨b0, b1, b2, hc⟩ := hs.img
  have h17 := hc.head
  have hb : behindN 17 = 0 := rfl
  have ok : OpOkI s 3 := ⟨h17.1, by omega, by rw [h17.2, hb]; omega, by omega⟩
  have hop : (mkIns s 3).op = 17 := h17.2
  have hnx : (mkIns s 3).next = s.size := by simp only [mkIns, h17.2, hb]; omega
  refine ⟨⟨by omega, by omega, b0, b1⟩, [mkIns s 3], ⟨ok, rfl, hnx⟩, fun _ => 0, rfl, fun o ho => ?_⟩
  obtain rfl : o = mkIns s 3 := by simpa using ho
  refine ⟨by rw [hop]; simp [takesN], by simp, fun q hq => ?_, .inl rfl⟩
  rcases hq with ⟨_, _, h, _⟩ | ⟨h, _⟩
  · exact absurd hop h
  · omega
theorem rej_run {s : ByteArray} (hs : Sits s 0 (imgC 0 [17])) (x : Itm) (y : Bn) (f : Nat) : runM s x y (f + 1) 3 [] 0 = (0, 0, 1) := by
  obtain ⟨b0, b1, b2, hc⟩ := hs.img
  have hop : (mkIns s 3).op = 17 := hc.head.2
  exact runM_end (by unfold stepM; rw [hop]; rfl)
end Go.Proofs.YtbdjcffmpbjjlaaDoor
