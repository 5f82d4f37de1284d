/-
  The program's tables, out of what its text lays: each cell of them.
-/
import Derived.Test.YtkbbdfeobcklhaaGreatDoorVerP
import Derived.Test.YtkbbdfeobcklhaaGreatDoorRows
import Derived.ProofKit
import Derived.LaidMore
import Derived.OpenShut
import Derived.Stop.Joined
set_option linter.unusedVariables false
set_option linter.unusedSimpArgs false
namespace Go.Proofs.YtkbbdfeobcklhaaGreatDoor
open Go.RowKit Go.ChangeShapes Go.WideShapes Go.ChangeAt

/-- A row of numbers that reads so: its cells. -/
theorem ints_of_trod {H : Type} {enc : TypeId × Value → H} {P : Program} {W : World} {sp : Nat → Bool} {hd : Bool} {t e : TypeId} {m fuel : Nat} {cs : List Value} {zs : List Int} {q : List MemPlace} (ht : P.underlying t = some (.array m e)) (he : P.underlying e = some (.int .i64)) (hc : P.cellsOf e = 1)
    (hd' : DataW.trod enc P W 0 sp hd fuel t cs = some (.agg (zs.map fun z => .lit (.int .i64 z)), q)) : ∀ (i : Nat) (z : Int), zs[i]? = some z → cs[i]? = some (Value.int .i64 z) := by
  obtain ⟨xs, m1, rfl, hx, hlen, hxm, hel⟩ := DataW.trod_array ht hd'
  intro i z hz
  simp only [Prod.mk.injEq, DataW.agg.injEq] at hx
  have hl : zs.length = xs.length := by have := congrArg List.length hx.1; simpa using this
  have hi : i < zs.length := (List.getElem?_eq_some_iff.1 hz).1
  have h1 := hel i (by omega)
  rw [hc, List.getElem?_eq_getElem (by omega : i < xs.length)] at h1
  obtain ⟨k, e1, e2, _⟩ := DataW.trod_int he h1
  have h2 : (zs.map fun z => (DataW.lit (.int .i64 z) : DataW H))[i]? = (xs.map (·.1))[i]? := by rw [hx.1]
  rw [List.getElem?_map, List.getElem?_map, hz, List.getElem?_eq_getElem (by omega : i < xs.length), Option.map_some, Option.map_some, e2] at h2
  have hk : k = z := by simpa using h2.symm
  subst hk
  have h3 : ((cs.drop (i * 1)).take 1)[0]? = some (.int .i64 k) := by rw [e1]; rfl
  rw [List.getElem?_take, if_pos (by omega), List.getElem?_drop] at h3
  simpa using h3

def tabBytes : List Int := [8, 1, 0, 0, 0, 0, 0, 0, 0, 0, 0, 0, 0, 2, 2, 2, 0, 0]
def tabTakes : List Int := [0, 0, 1, 1, 2, 2, 2, 2, 2, 2, 2, 2, 2, 0, 1, 1, 1, 0]
def tabLays : List Int := [1, 1, 1, 1, 1, 1, 1, 1, 1, 1, 1, 1, 1, 0, 0, 0, 0, 0]
theorem tabBytes_eq : ∀ c, c < 18 → tabBytes[c]? = some ((behindN c : Nat) : Int) := by decide
theorem tabTakes_eq : ∀ c, c < 18 → tabTakes[c]? = some ((takesN c : Nat) : Int) := by decide
theorem tabLays_eq : ∀ c, c < 18 → tabLays[c]? = some ((laysN c : Nat) : Int) := by decide
theorem dBytes : (Rows.laid_slots_program_bytesBehind : DataW Unit) = .agg (tabBytes.map fun z => .lit (.int .i64 z)) := rfl
theorem dTakes : (Rows.laid_slots_program_takes : DataW Unit) = .agg (tabTakes.map fun z => .lit (.int .i64 z)) := rfl
theorem dLays : (Rows.laid_slots_program_lays : DataW Unit) = .agg (tabLays.map fun z => .lit (.int .i64 z)) := rfl
/-- The name of a listed variable. -/
def laidName (i : Nat) : String := ((Rows.verifiesRow.laid[i]?).map (·.1)).getD default
theorem gBytes : Tryz.prog.globalNamed (laidName 3) = some 0 := by kernel_rfl
theorem gTakes : Tryz.prog.globalNamed (laidName 4) = some 1 := by kernel_rfl
theorem gLays : Tryz.prog.globalNamed (laidName 5) = some 2 := by kernel_rfl
theorem tyBytes : (Tryz.prog.globals[0]?).map (·.type) = some 166 := by kernel_rfl
theorem tyTakes : (Tryz.prog.globals[1]?).map (·.type) = some 166 := by kernel_rfl
theorem tyLays : (Tryz.prog.globals[2]?).map (·.type) = some 166 := by kernel_rfl
theorem cellsInt : Tryz.prog.cellsOf 3 = 1 := by kernel_rfl
/-- One table of eighteen numbers. -/
theorem table_of {W : World} {nm : String} {g t : Nat} {cs : Array Value} {fuel : Nat} {p : List MemPlace} {zs : List Int} {d : DataW Unit} (k : Nat) (hgk : Tryz.prog.globalNamed nm = some k) (htk : (Tryz.prog.globals[k]?).map (·.type) = some 166) (hd0 : d = .agg (zs.map fun z => .lit (.int .i64 z)))
    (hg : Tryz.prog.globalNamed nm = some g) (ht : (Tryz.prog.globals[g]?).map (·.type) = some t) (hv : W.var? Tryz.prog nm = some cs) (hd : DataW.trod (fun _ => ()) Tryz.prog W 0 (fun _ => true) false fuel t cs.toList = some (d, p)) :
    ∀ (i : Nat) (z : Int), zs[i]? = some z → W.cell? ⟨k, i, none⟩ = some (.int .i64 z) := by
  obtain rfl := Option.some.inj (hgk.symm.trans hg)
  obtain rfl := Option.some.inj (htk.symm.trans ht)
  subst hd0
  intro i z hz
  have h1 := ints_of_trod Tryz.underlying166 Tryz.underlying3 cellsInt hd i z hz
  rw [World.var?_cell hgk hv i]
  simpa using h1
end Go.Proofs.YtkbbdfeobcklhaaGreatDoor
