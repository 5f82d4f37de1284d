/-
  The document's Machine: what holds at each of its steps.
-/
import Derived.Test.YtkbbdfeobcklhaaGreatDoorRunL
import Derived.Test.YtkbbdfeobcklhaaGreatDoorRunI
import Derived.Laws.AppendOwnNone
set_option linter.unusedVariables false
set_option linter.unusedSimpArgs false
namespace Go.Proofs.YtkbbdfeobcklhaaGreatDoor
open Go.RowKit

theorem Tryz.szInt (w : World) : (sizeOf 3).run Tryz.prog w = .ok 1 w := by kernel_rfl
theorem Tryz.elInt : Tryz.prog.elem 40 = 3 := by kernel_rfl
theorem slh_int (g n cap hi : Nat) (h2 : hi ≤ cap) (wx : World) :
    (Instr.slice 40 (.slice (some ⟨g, 0, none⟩) n cap) none (some (.int .i64 hi)) none).run Tryz.prog wx = .ok (.slice (some ⟨g, 0, none⟩) hi cap) wx := by
  rw [run_slice_h wx _ _ _ _ (by rw [Tryz.elInt]; exact Tryz.underlying40) .i64 _ (by omega) (by omega), Tryz.elInt, Tryz.szInt]
  simp [Result.andThen, sliced, Addr.add]
theorem sll_int (g n cap lo : Nat) (h1 : lo ≤ n) (wx : World) :
    (Instr.slice 40 (.slice (some ⟨g, 0, none⟩) n cap) (some (.int .i64 lo)) none none).run Tryz.prog wx = .ok (.slice (some ⟨g, if cap = lo then 0 else lo, none⟩) (n - lo) (cap - lo)) wx := by
  rw [run_slice_l wx _ _ _ _ (by rw [Tryz.elInt]; exact Tryz.underlying40) .i64 _ (by omega) (by omega), Tryz.elInt, Tryz.szInt]
  by_cases h : cap = lo
  · simp [Result.andThen, sliced, Addr.add, h]
  · simp [Result.andThen, sliced, Addr.add, h]
    exact fun h => h.symm
/-- The document's run, at a step. -/
structure RRun (s : ByteArray) (l : List Ins) (most : Nat) (G : Nat → Int) (x : Itm) (y : Bn) (R : Nat × Int × Nat) (st : List Int) (i n f : Nat) : Prop where
  hi : i < l.length
  at' : AtStep s l most G (nth l i).pos st
  run : R = runM s x y f (nth l i).pos st n
  fuel : s.size < f + (nth l i).pos
  steps : n ≤ (nth l i).pos
/-- What a step leads to. -/
theorem RRun.ends {s : ByteArray} {l : List Ins} {most : Nat} {G : Nat → Int} {x : Itm} {y : Bn} {R : Nat × Int × Nat} {st : List Int} {i n f k : Nat} {v : Int} (h : RRun s l most G x y R st i n f) (hs : stepM x y (nth l i) st = .inl (k, v)) : R = (k, v, n + 1) := by
  have h1 := h.at'.ok.1
  have h2 := h.fuel
  obtain ⟨f', rfl⟩ : ∃ f', f = f' + 1 := ⟨f - 1, by omega⟩
  rw [nth_mk h.at'.chain h.hi] at hs
  rw [h.run]
  exact runM_end hs
theorem RRun.goes {s : ByteArray} {l : List Ins} {most : Nat} {G : Nat → Int} {x : Itm} {y : Bn} {R : Nat × Int × Nat} {st st' : List Int} {i n f q : Nat} (h : RRun s l most G x y R st i n f) (hxy : x.Ok ∧ y.Ok) (hs : stepM x y (nth l i) st = .inr (q, st')) :
    ∃ k f', i < k ∧ (nth l k).pos = q ∧ RRun s l most G x y R st' k (n + 1) f' ∧ (q = (nth l i).next → k = i + 1) := by
  have h1 := h.at'.ok.1
  have h2 := h.fuel
  have h3 := h.steps
  obtain ⟨f', rfl⟩ : ∃ f', f = f' + 1 := ⟨f - 1, by omega⟩
  have hs' := hs
  rw [nth_mk h.at'.chain h.hi] at hs'
  obtain ⟨ha, hlt⟩ := h.at'.go hxy.1 hxy.2 hs'
  obtain ⟨k, hk, hp⟩ := ha.idx
  have hik : i < k := by
    rcases Nat.lt_trichotomy i k with h4 | h4 | h4
    · exact h4
    · subst h4; omega
    · have := h.at'.chain.sorted k i h4 h.hi; omega
  refine ⟨k, f', hik, hp, ⟨hk, by rw [hp]; exact ha, ?_, by rw [hp]; omega, by rw [hp]; omega⟩, fun hq => ?_⟩
  · rw [h.run, hp]; exact runM_go hs'
  · obtain ⟨h5, h6⟩ := ha.nextIdx h.hi hq.symm
    exact h.at'.chain.inj k (i + 1) hk h5 (by rw [hp, h6])
theorem IsIndex.at {s : ByteArray} {l : List Ins} {p e : Nat} (hc : Chain s p l e) {k : Nat} (hk : k < l.length) {a r : Int} (ha : ((nth l k).pos : Int) = a) (h : IsIndex l a r) : r = k := by
  rcases h with ⟨_, h⟩ | ⟨j, hj, rfl, hp⟩
  · exact absurd ha (h k hk)
  · have := hc.inj j k hj hk (by omega)
    rw [this]
/-- The numbers that are left, as cells of the old stack. -/
theorem rest_cells {w : World} {B g n cap tk : Nat} {st : List Int} (h : w.ownsRow B 3 1 (.slice (some ⟨g, 0, none⟩) n cap) st.length (cellsZ st)) (htk : tk ≤ st.length) : n = st.length ∧ n ≤ cap ∧ (∀ j u, (cellsZ st)[j]? = some u → w.cell? ⟨g, j, none⟩ = some u) ∧ ∀ j u, (cellsZ (st.drop tk))[j]? = some u → w.cell? ((⟨g, if cap = tk then 0 else tk, none⟩ : Addr).add j) = some u := by
  rcases h.2 with ⟨hv, _⟩ | ⟨g', cap', cur, hv, hg, hh, hn, hm, hs, ht⟩
  · cases hv
  · cases hv
    have hall : ∀ j u, (cellsZ st)[j]? = some u → w.cell? ⟨g, j, none⟩ = some u := by
      intro j u hj
      rw [← ht, List.getElem?_take] at hj
      split at hj
      · simp [World.cell?, hh]
        simpa using hj
      · cases hj
    refine ⟨rfl, hn, hall, fun j u hj => ?_⟩
    have hj' : (cellsZ st)[tk + j]? = some u := by
      unfold cellsZ at hj ⊢
      rw [List.map_drop, List.getElem?_drop] at hj
      exact hj
    have hlt : tk + j < st.length := by
      have := (List.getElem?_eq_some_iff.1 hj').1
      simpa [cellsZ] using this
    rw [if_neg (by omega)]
    have e : (⟨g, tk, none⟩ : Addr).add j = ⟨g, tk + j, none⟩ := by
      unfold Addr.add
      by_cases h0 : j = 0 <;> simp [h0]
    rw [e]
    exact hall _ _ hj'
theorem one_cells (l : List Int) : ∀ u ∈ cellsZ l, u.oneCell' = true := by
  intro u hu
  obtain ⟨n, _, rfl⟩ := List.mem_map.1 hu
  rfl
theorem fin_blk {w1 : World} {rb : Nat} {T : TypeId} (h : Blk w1 rb #[.int .i64 0, .int .i64 0, .int .i64 0] T) (k v n : Value) : Blk (((w1.setCell ⟨rb, 0, none⟩ k).setCell ⟨rb, 1, none⟩ v).setCell ⟨rb, 2, none⟩ n) rb #[k, v, n] T := ((h.set 0 k).set 1 v).set 2 n
theorem fin_below {B rb : Nat} {w w1 : World} (h : Below B w w1) (hB : B ≤ rb) (k v n : Value) : Below B w (((w1.setCell ⟨rb, 0, none⟩ k).setCell ⟨rb, 1, none⟩ v).setCell ⟨rb, 2, none⟩ n) := ((h.setCell (p := ⟨rb, 0, none⟩) hB k).setCell (p := ⟨rb, 1, none⟩) hB v).setCell (p := ⟨rb, 2, none⟩) hB n
theorem fst_of {st : List Int} {z : Int} (h : st[0]? = some z) : fst st = z := by
  cases st with
  | nil => simp at h
  | cons a r => simpa [fst] using h
theorem snd_of {st : List Int} {z : Int} (h : st[1]? = some z) : snd st = z := by
  cases st with
  | nil => simp at h
  | cons a r => cases r with
    | nil => simp at h
    | cons b r => simpa [snd] using h
theorem get_of {st : List Int} {k : Nat} (h : k < st.length) : ∃ z, st[k]? = some z ∧ z ∈ st := ⟨st[k], List.getElem?_eq_getElem h, List.getElem_mem h⟩
end Go.Proofs.YtkbbdfeobcklhaaGreatDoor
