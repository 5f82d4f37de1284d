/-
  The document's Heights: do the operations have heights as an image's must?
-/
import Derived.Test.YtbdjcffmpbjjlaaDoorVerC
import Derived.Deep.LoopGhost
import Derived.Deep.Light
set_option linter.unusedVariables false
set_option linter.unusedSimpArgs false
namespace Go.Proofs.YtbdjcffmpbjjlaaDoor
open Go.RowKit

/-- A row of n numbers. -/
def arrH (hs : Nat → Int) (n : Nat) : Array Value := ((List.range n).map fun q => Value.int .i64 (hs q)).toArray
theorem arrH_get (hs : Nat → Int) (n i : Nat) (h : i < n) : (arrH hs n)[i]? = some (.int .i64 (hs i)) := by simp [arrH, h]
theorem arrH_size (hs : Nat → Int) (n : Nat) : (arrH hs n).size = n := by simp [arrH]
theorem arrH_set (hs : Nat → Int) (n k : Nat) (v : Int) : (arrH hs n).setIfInBounds k (.int .i64 v) = arrH (upd hs k v) n := by
  apply Array.ext
  · simp [arrH]
  · intro i h1 h2
    have hi : i < n := by simpa [arrH] using h2
    rw [Array.getElem_setIfInBounds (by simpa [arrH] using hi)]
    simp only [arrH, upd, List.getElem_toArray, List.getElem_map, List.getElem_range]
    by_cases h : k = i
    · subst h; simp
    · simp [h, Ne.symm h]
theorem arrH_congr {hs gs : Nat → Int} {n : Nat} (h : ∀ i, i < n → hs i = gs i) : arrH hs n = arrH gs n := by
  unfold arrH
  congr 1
  exact List.map_congr_left fun q hq => by rw [h q (by simpa using hq)]
theorem arrH_zero (n : Nat) : Array.replicate n (Value.int .i64 0) = arrH (fun _ => 0) n := by
  apply Array.ext
  · simp [arrH]
  · intro i h1 h2
    simp [arrH]
theorem made_zero (n : Nat) : madeCells (Value.int .i64 0).cells (n * 1) = arrH (fun _ => 0) n := by
  apply Array.ext
  · simp [arrH, madeCells]
  · intro i h1 h2
    have e : (Value.int .i64 0).cells = #[Value.int .i64 0] := rfl
    simp [e, arrH, madeCells, Nat.mod_one]
/-- The heights while they are laid. -/
def iniH (i : Nat) : Nat → Int := fun q => if 1 ≤ q ∧ q < i then -1 else 0
def startH : Nat → Int := fun q => if q = 0 then 0 else -1
theorem iniH_one (n : Nat) : arrH (fun _ => 0) n = arrH (iniH 1) n := arrH_congr fun q _ => by unfold iniH; rw [if_neg (by omega)]
theorem iniH_set (i n : Nat) (h : 1 ≤ i) : arrH (upd (iniH i) i (-1)) n = arrH (iniH (i + 1)) n := arrH_congr fun q _ => by
  unfold upd iniH
  by_cases h1 : q = i
  · rw [if_pos h1, if_pos (by omega)]
  · rw [if_neg h1]
    by_cases h2 : 1 ≤ q ∧ q < i
    · rw [if_pos h2, if_pos (by omega)]
    · rw [if_neg h2, if_neg (by omega)]
theorem iniH_end (i n : Nat) (h : n ≤ i) : arrH (iniH i) n = arrH startH n := arrH_congr fun q hq => by
  unfold iniH startH
  by_cases h1 : q = 0
  · rw [if_pos h1, if_neg (by omega)]
  · rw [if_neg h1, if_pos (by omega)]
theorem run_make_ints {P : Program} (w : World) (t e : TypeId) (i : TypeInfo) (ht : P.underlying t = some (.slice e)) (hi : P.info? e = some i) (hz : i.zero = some (.int .i64 0)) (hs : i.size = 1) (hb : i.bytes = 8) (n : Nat) (hn : n ≤ 4000) :
    (Instr.makeSlice t (.int .i64 n) (.int .i64 n)).run P w = .ok (.slice (some ⟨w.heap.size, 0, none⟩) n n) (w.alloc (.cells (arrH (fun _ => 0) n) e)) := by
  have := run_make (P := P) w t e i _ ht hi hz .i64 .i64 n n (by omega) (by omega) (by rw [hb]; omega) (by omega)
  rw [this, hs, Int.toNat_natCast, made_zero]
theorem own_setCell {w : World} {base : Nat} {e : TypeId} {size : Nat} {v : Value} {n : Nat} {xs : List Value} (h : w.ownsRow base e size v n xs) (p : Addr) (x : Value) (hp : p.block < base) : (w.setCell p x).ownsRow base e size v n xs := by
  refine ⟨h.1, ?_⟩
  rcases h.2 with hn | ⟨g, cap, cur, rfl, hbg, hg, r⟩
  · exact .inl hn
  · exact .inr ⟨g, cap, cur, rfl, hbg, by rw [Below.heap_setCell _ _ _ _ (by omega)]; exact hg, r⟩
/-- A row of one's own, that is not empty, written out. -/
theorem own_pos {w : World} {base : Nat} {e : TypeId} {a : Option Addr} {n c : Nat} {xs : List Value} (h : w.ownsRow base e 1 (.slice a n c) n xs) (hn : 0 < n) : ∃ g, a = some ⟨g, 0, none⟩ ∧ base ≤ g ∧ ∀ j u, xs[j]? = some u → w.cell? ⟨g, j, none⟩ = some u := by
  have hr := reads_of_own h
  rcases hr with ⟨_, h0, _⟩ | ⟨g, o, cap, he, _, _, hc⟩
  · omega
  rcases h.2 with hn' | ⟨g', cap', cur, he', hbg, _⟩
  · rw [hn'.1] at he; cases he
  · cases he
    cases he'
    exact ⟨g, rfl, hbg, fun j u hj => by have := hc j u hj; simpa using this⟩
theorem settled_zero (l : List Ins) (most : Nat) (hs : Nat → Int) : Settled l most hs 0 := fun j hj => by omega
end Go.Proofs.YtbdjcffmpbjjlaaDoor
