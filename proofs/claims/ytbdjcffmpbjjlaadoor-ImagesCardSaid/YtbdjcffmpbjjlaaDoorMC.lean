/-
  The program's tables, out of what its text lays: each cell of them.
  The program's tables, out of what its text lays (a seat whose rows list these three alone).
-/
import Derived.Test.YtbdjcffmpbjjlaaDoorVerP
import Derived.Test.YtbdjcffmpbjjlaaDoorRows
import Derived.ProofKit
import Derived.LaidMore
import Derived.OpenShut
import Derived.Stop.Joined
set_option linter.unusedVariables false
set_option linter.unusedSimpArgs false
namespace Go.Proofs.YtbdjcffmpbjjlaaDoor
open Go.RowKit Go.ChangeShapes Go.WideShapes Go.ChangeAt

/-- A row of numbers that reads so: its cells. -/
theorem ints_of_trod {H : Type} {enc : TypeId × Value → H} {P : Program} {W : World} {sp : Nat → Bool} {hd : Bool} {t e : TypeId} {m fuel : Nat} {cs : List Value} {zs : List Int} {q : List MemPlace} (ht : P.underlying t = some (.array m e)) (he : P.underlying e = some (.int .i64)) (hc : P.cellsOf e = 1)
    (hd' : DataW.trod enc P W 0 sp hd fuel t cs = some (.agg (zs.map fun z => .lit (.int .i64 z)), q)) : ∀ (i : Nat) (z : Int), zs[i]? = some z → cs[i]? = some (Value.int .i64 z) := by
  obtain ⟨xs, m1, rfl, hx, hlen, hxm, hel⟩ := DataW.trod_array ht hd'
  intro i z hz
  simp only [Prod.mk.injEq, DataW.agg.injEq] at hx
  have hl : zs.length = xs.length := by have := congrArg List.length hx.1; simpa using this
  have hi : i < zs.length := (List.getElem?_eq_some_iff.1 hz).1
  have h1 := hel i (by omega)
  rw [hc, List.getElem?_eq_getElem (by omega : i < xs.length)] at h1
  obtain ⟨k, e1, e2, _⟩ := DataW.trod_int he h1
  have h2 : (zs.map fun z => (DataW.lit (.int .i64 z) : DataW H))[i]? = (xs.map (·.1))[i]? := by rw [hx.1]
  rw [List.getElem?_map, List.getElem?_map, hz, List.getElem?_eq_getElem (by omega : i < xs.length), Option.map_some, Option.map_some, e2] at h2
  have hk : k = z := by simpa using h2.symm
  subst hk
  have h3 : ((cs.drop (i * 1)).take 1)[0]? = some (.int .i64 k) := by rw [e1]; rfl
  rw [List.getElem?_take, if_pos (by omega), List.getElem?_drop] at h3
  simpa using h3

def tabBytes : List Int := [8, 1, 0, 0, 0, 0, 0, 0, 0, 0, 0, 0, 0, 2, 2, 2, 0, 0]
def tabTakes : List Int := [0, 0, 1, 1, 2, 2, 2, 2, 2, 2, 2, 2, 2, 0, 1, 1, 1, 0]
def tabLays : List Int := [1, 1, 1, 1, 1, 1, 1, 1, 1, 1, 1, 1, 1, 0, 0, 0, 0, 0]
theorem tabBytes_eq : ∀ c, c < 18 → tabBytes[c]? = some ((behindN c : Nat) : Int) := by decide
theorem tabTakes_eq : ∀ c, c < 18 → tabTakes[c]? = some ((takesN c : Nat) : Int) := by decide
theorem tabLays_eq : ∀ c, c < 18 → tabLays[c]? = some ((laysN c : Nat) : Int) := by decide
theorem dBytes : (Rows.laid_slots_program_bytesBehind : DataW Unit) = .agg (tabBytes.map fun z => .lit (.int .i64 z)) := rfl
theorem dTakes : (Rows.laid_slots_program_takes : DataW Unit) = .agg (tabTakes.map fun z => .lit (.int .i64 z)) := rfl
theorem dLays : (Rows.laid_slots_program_lays : DataW Unit) = .agg (tabLays.map fun z => .lit (.int .i64 z)) := rfl
/-- The name of a listed variable. -/
def laidName (i : Nat) : String := ((Rows.imagesRow.laid[i]?).map (·.1)).getD default
theorem gBytes : Tryd.prog.globalNamed (laidName 0) = some 0 := by kernel_rfl
theorem gTakes : Tryd.prog.globalNamed (laidName 1) = some 1 := by kernel_rfl
theorem gLays : Tryd.prog.globalNamed (laidName 2) = some 2 := by kernel_rfl
theorem tyBytes : (Tryd.prog.globals[0]?).map (·.type) = some 81 := by kernel_rfl
theorem tyTakes : (Tryd.prog.globals[1]?).map (·.type) = some 81 := by kernel_rfl
theorem tyLays : (Tryd.prog.globals[2]?).map (·.type) = some 81 := by kernel_rfl
theorem cellsInt : Tryd.prog.cellsOf 3 = 1 := by kernel_rfl
/-- One table of eighteen numbers. -/
theorem table_of {W : World} {nm : String} {g t : Nat} {cs : Array Value} {fuel : Nat} {p : List MemPlace} {zs : List Int} {d : DataW Unit} (k : Nat) (hgk : Tryd.prog.globalNamed nm = some k) (htk : (Tryd.prog.globals[k]?).map (·.type) = some 81) (hd0 : d = .agg (zs.map fun z => .lit (.int .i64 z)))
    (hg : Tryd.prog.globalNamed nm = some g) (ht : (Tryd.prog.globals[g]?).map (·.type) = some t) (hv : W.var? Tryd.prog nm = some cs) (hd : DataW.trod (fun _ => ()) Tryd.prog W 0 (fun _ => true) false fuel t cs.toList = some (d, p)) :
    ∀ (i : Nat) (z : Int), zs[i]? = some z → W.cell? ⟨k, i, none⟩ = some (.int .i64 z) := by
  obtain rfl := Option.some.inj (hgk.symm.trans hg)
  obtain rfl := Option.some.inj (htk.symm.trans ht)
  subst hd0
  intro i z hz
  have h1 := ints_of_trod Tryd.underlying81 Tryd.underlying3 cellsInt hd i z hz
  rw [World.var?_cell hgk hv i]
  simpa using h1
end Go.Proofs.YtbdjcffmpbjjlaaDoor

set_option linter.unusedVariables false
set_option linter.unusedSimpArgs false
namespace Go.Proofs.YtbdjcffmpbjjlaaDoor
open Go.RowKit Go.ChangeShapes Go.WideShapes Go.ChangeAt

theorem Tryd.own : ownKnob Tryd.prog.godebug = none := by kernel_rfl
theorem Tryd.laidOut : laidOutB Tryd.prog = true := by kernel_rfl
def laidAll : List (String × DataW Unit) := Rows.imagesRow.laid
/-- The door's own heap meets the condition. -/
theorem door_met (os : Os) (args : Array Value) : laidMetH Tryd.prog laidAll ((World.doorLaid Tryd.prog 24 os).forCall (fun _ _ => 0) ⟨#[], args, []⟩).memory :=
  laidMetH_of_parts3 (fuel := 8) (laidMet_of_run' 8 (by kernel_rfl) (by kernel_rfl)) (by kernel_rfl) (by kernel_rfl)
theorem glob_of_laid {W : World} (h : laidMetH Tryd.prog laidAll W) : GlobP W := by
  rw [MakeChecks.laidMetH_plain _ _ _ (by kernel_rfl)] at h
  obtain ⟨ps, ⟨g3, t3, cs3, f3, p3, q3, hg3, ht3, hv3, hd3, ⟨g4, t4, cs4, f4, p4, q4, hg4, ht4, hv4, hd4, ⟨g5, t5, cs5, f5, p5, q5, hg5, ht5, hv5, hd5, _, _⟩, _⟩, _⟩, _, _⟩ := h
  have hb := table_of 0 gBytes tyBytes dBytes hg3 ht3 hv3 hd3
  have ht := table_of 1 gTakes tyTakes dTakes hg4 ht4 hv4 hd4
  have hl := table_of 2 gLays tyLays dLays hg5 ht5 hv5 hd5
  have hlt : ∀ (k : Nat) (v : Value), W.cell? ⟨k, 0, none⟩ = some v → k < W.heap.size := fun k v hc => by
    by_cases h : k < W.heap.size
    · exact h
    · simp [World.cell?, Array.getElem?_eq_none (by omega : W.heap.size ≤ k)] at hc
  exact ⟨fun c hc => hb c _ (tabBytes_eq c hc), fun c hc => ht c _ (tabTakes_eq c hc), fun c hc => hl c _ (tabLays_eq c hc), ⟨hlt _ _ (hb 0 _ (tabBytes_eq 0 (by omega))), hlt _ _ (ht 0 _ (tabTakes_eq 0 (by omega))), hlt _ _ (hl 0 _ (tabLays_eq 0 (by omega)))⟩⟩
section
variable {H : Type} {enc : TypeId × Value → H} {P : Program} {w : World} {base : Nat} {spare : Nat → Bool} {held : Bool}
/-- Five arguments that read as data. -/
theorem trodAll_five {t1 t2 t3 t4 t5 : TypeId} {args : Array Value} {ds : List (DataW H)} {ps : List MemPlace} (h : DataW.TrodAll enc P w base spare held [t1, t2, t3, t4, t5] args.toList ds ps) :
    ∃ v1 v2 v3 v4 v5 d1 d2 d3 d4 d5 p1 p2 p3 p4 p5, args = #[v1, v2, v3, v4, v5] ∧ ds = [d1, d2, d3, d4, d5] ∧ ps = p1 ++ (p2 ++ (p3 ++ (p4 ++ p5))) ∧ DataW.Trod enc P w base spare held t1 v1 d1 p1 ∧ DataW.Trod enc P w base spare held t2 v2 d2 p2 ∧ DataW.Trod enc P w base spare held t3 v3 d3 p3 ∧ DataW.Trod enc P w base spare held t4 v4 d4 p4 ∧ DataW.Trod enc P w base spare held t5 v5 d5 p5 := by
  obtain ⟨v1, vs1, d1, ds1, p1, q1, hargs, rfl, rfl, hd1, h1⟩ := trodAll_cons h
  obtain ⟨v2, vs2, d2, ds2, p2, q2, rfl, rfl, rfl, hd2, h2⟩ := trodAll_cons h1
  obtain ⟨v3, vs3, d3, ds3, p3, q3, rfl, rfl, rfl, hd3, h3⟩ := trodAll_cons h2
  obtain ⟨v4, vs4, d4, ds4, p4, q4, rfl, rfl, rfl, hd4, h4⟩ := trodAll_cons h3
  obtain ⟨v5, vs5, d5, ds5, p5, q5, rfl, rfl, rfl, hd5, h5⟩ := trodAll_cons h4
  obtain ⟨rfl, rfl, rfl⟩ := trodAll_nil h5
  exact ⟨v1, v2, v3, v4, v5, d1, d2, d3, d4, d5, p1, p2, p3, p4, p5, by cases args; simp_all, rfl, by simp, hd1, hd2, hd3, hd4, hd5⟩
theorem in64_of_wf {n : Int} (h : (Lit.int .i64 n).wf = true) : In64 n := by
  simp [Lit.wf, IntKind.min, IntKind.max, IntKind.signed, IntKind.bits] at h
  unfold In64
  omega
theorem int_arg {r : Reach} {b0 : Nat} {t : TypeId} {v : Value} {d : DataW H} {ps : List MemPlace} (ht : P.underlying t = some (.int .i64)) (hval : Value.okWide P w r b0 t v) (h : DataW.Trod enc P w base spare held t v d ps) : ∃ n, v = .int .i64 n ∧ In64 n := by
  obtain ⟨n, rfl⟩ := okWide_int ht hval
  obtain ⟨fuel, hf⟩ := h
  obtain ⟨m, h1, _, h3⟩ := DataW.trod_int ht hf
  have : n = m := by simpa [Value.cells] using h1
  subst this
  exact ⟨n, rfl, in64_of_wf h3⟩
theorem str_arg {r : Reach} {b0 : Nat} {t : TypeId} {v : Value} {d : DataW H} {ps : List MemPlace} (ht : P.underlying t = some .string) (hval : Value.okWide P w r b0 t v) (h : DataW.Trod enc P w base spare held t v d ps) : ∃ s : ByteArray, v = .string s ∧ s.size ≤ maxLen := by
  obtain ⟨s, rfl⟩ := okWide_string ht hval
  obtain ⟨fuel, hf⟩ := h
  obtain ⟨m, h1, _, h3⟩ := DataW.trod_string ht hf
  have : s = m := by simpa [Value.cells] using h1
  subst this
  exact ⟨s, rfl, h3⟩
end
end Go.Proofs.YtbdjcffmpbjjlaaDoor
