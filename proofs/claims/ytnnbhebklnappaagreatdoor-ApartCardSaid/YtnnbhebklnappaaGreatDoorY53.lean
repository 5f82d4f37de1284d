/-
  The program's words, signs and one table, out of what its text lays; moves that read as data.
  For all raw bytes for the bins of two stores and all moves, Apart answers true: what happens to one store changes no other (its bins are the same, and its rank), lists that were told are the caller's own, and a new store has no bins and ranks nothing; and the arguments read afterwards as they read before. No condition but what the row itself says (the listed tables of packages program and token hold what the program's text lays).
  For all raw bytes for the bins of two stores and all moves, Apart answers true: what happens to one store changes no other (its bins are the same, and its rank), lists that were told are the caller's own, and a new store has no bins and ranks nothing; and the arguments read afterwards as they read before. Its condition: the listed package-level variables hold what the program's text lays, which the card ties to that text.
-/
import Derived.Test.YtnnbhebklnappaaGreatDoorY52
import Derived.Test.YtnnbhebklnappaaGreatDoorRows
import Derived.ProofKit
import Derived.LaidMore
import Derived.OpenShut
import Derived.Stop.Joined
import Derived.Test.YtnnbhebklnappaaGreatDoorTie
import Derived.Test.YtnnbhebklnappaaGreatDoorCards
import Derived.SevenTiedAt
set_option linter.unusedVariables false
set_option linter.unusedSimpArgs false
namespace Go.Proofs.YtnnbhebklnappaaGreatDoor
open Go.RowKit Go.ChangeShapes Go.WideShapes Go.ChangeAt

theorem ints_of_trod {H : Type} {enc : TypeId × Value → H} {P : Program} {W : World} {sp : Nat → Bool} {hd : Bool} {t e : TypeId} {m fuel : Nat} {cs : List Value} {zs : List Int} {q : List MemPlace} (ht : P.underlying t = some (.array m e)) (he : P.underlying e = some (.int .i64)) (hc : P.cellsOf e = 1)
    (hd' : DataW.trod enc P W 0 sp hd fuel t cs = some (.agg (zs.map fun z => .lit (.int .i64 z)), q)) : ∀ (i : Nat) (z : Int), zs[i]? = some z → cs[i]? = some (Value.int .i64 z) := by
  obtain ⟨xs, m1, rfl, hx, hlen, hxm, hel⟩ := DataW.trod_array ht hd'
  intro i z hz
  simp only [Prod.mk.injEq, DataW.agg.injEq] at hx
  have hl : zs.length = xs.length := by have := congrArg List.length hx.1; simpa using this
  have hi : i < zs.length := (List.getElem?_eq_some_iff.1 hz).1
  have h1 := hel i (by omega)
  rw [hc, List.getElem?_eq_getElem (by omega : i < xs.length)] at h1
  obtain ⟨k, e1, e2, _⟩ := DataW.trod_int he h1
  have h2 : (zs.map fun z => (DataW.lit (.int .i64 z) : DataW H))[i]? = (xs.map (·.1))[i]? := by rw [hx.1]
  rw [List.getElem?_map, List.getElem?_map, hz, List.getElem?_eq_getElem (by omega : i < xs.length), Option.map_some, Option.map_some, e2] at h2
  have hk : k = z := by simpa using h2.symm
  subst hk
  have h3 : ((cs.drop (i * 1)).take 1)[0]? = some (.int .i64 k) := by rw [e1]; rfl
  rw [List.getElem?_take, if_pos (by omega), List.getElem?_drop] at h3
  simpa using h3
theorem strs_of_trod {H : Type} {enc : TypeId × Value → H} {P : Program} {W : World} {sp : Nat → Bool} {hd : Bool} {t e : TypeId} {m fuel : Nat} {cs : List Value} {zs : List Txt} {q : List MemPlace} (ht : P.underlying t = some (.array m e)) (he : P.underlying e = some .string) (hc : P.cellsOf e = 1)
    (hd' : DataW.trod enc P W 0 sp hd fuel t cs = some (.agg (zs.map fun z => .lit (.string z)), q)) : ∀ (i : Nat) (z : Txt), zs[i]? = some z → cs[i]? = some (Value.string (bsOf z)) := by
  obtain ⟨xs, m1, rfl, hx, hlen, hxm, hel⟩ := DataW.trod_array ht hd'
  intro i z hz
  simp only [Prod.mk.injEq, DataW.agg.injEq] at hx
  have hl : zs.length = xs.length := by have := congrArg List.length hx.1; simpa using this
  have hi : i < zs.length := (List.getElem?_eq_some_iff.1 hz).1
  have h1 := hel i (by omega)
  rw [hc, List.getElem?_eq_getElem (by omega : i < xs.length)] at h1
  obtain ⟨k, e1, e2, _⟩ := DataW.trod_string he h1
  have h2 : (zs.map fun z => (DataW.lit (.string z) : DataW H))[i]? = (xs.map (·.1))[i]? := by rw [hx.1]
  rw [List.getElem?_map, List.getElem?_map, hz, List.getElem?_eq_getElem (by omega : i < xs.length), Option.map_some, Option.map_some, e2] at h2
  have hk : z = k.data.toList := by simpa using h2
  have hkb : bsOf z = k := by rw [hk]; cases k; simp [bsOf]
  rw [hkb]
  have h3 : ((cs.drop (i * 1)).take 1)[0]? = some (.string k) := by rw [e1]; rfl
  rw [List.getElem?_take, if_pos (by omega), List.getElem?_drop] at h3
  simpa using h3
def tabBytes : List Int := [8, 1, 0, 0, 0, 0, 0, 0, 0, 0, 0, 0, 0, 2, 2, 2, 0, 0]
theorem tabBytes_eq : ∀ c, c < 18 → tabBytes[c]? = some ((behindN c : Nat) : Int) := by decide
theorem dBytes : (Rows.laid_slots_program_bytesBehind : DataW Unit) = .agg (tabBytes.map fun z => .lit (.int .i64 z)) := rfl
theorem dWords : (Rows.laid_slots_token_words : DataW Unit) = .agg (tWords.map fun z => .lit (.string z)) := rfl
theorem dSigns : (Rows.laid_slots_token_signs : DataW Unit) = .agg (tSign.map fun z => .lit (.string z)) := rfl
def laidName (i : Nat) : String := ((Rows.apartRow.laid[i]?).map (·.1)).getD default
theorem gBytes : Tryz.prog.globalNamed (laidName 0) = some 0 := by kernel_rfl
theorem gWords : Tryz.prog.globalNamed (laidName 1) = some 3 := by kernel_rfl
theorem gSigns : Tryz.prog.globalNamed (laidName 2) = some 4 := by kernel_rfl
theorem tyBytes : (Tryz.prog.globals[0]?).map (·.type) = some 171 := by kernel_rfl
theorem tyWords : (Tryz.prog.globals[3]?).map (·.type) = some 214 := by kernel_rfl
theorem tySigns : (Tryz.prog.globals[4]?).map (·.type) = some 215 := by kernel_rfl
theorem undWords : Tryz.prog.underlying 214 = some (.array 19 9) := by kernel_rfl
theorem undSigns : Tryz.prog.underlying 215 = some (.array 12 9) := by kernel_rfl
theorem cellsStr : Tryz.prog.cellsOf 9 = 1 := by kernel_rfl
theorem cellsInt : Tryz.prog.cellsOf 3 = 1 := by kernel_rfl
theorem cellsBool : Tryz.prog.cellsOf 4 = 1 := by kernel_rfl
theorem cellsMov : Tryz.prog.cellsOf 66 = 3 := by kernel_rfl
theorem table_of {W : World} {nm : String} {g t : Nat} {cs : Array Value} {fuel : Nat} {p : List MemPlace} {zs : List Int} {d : DataW Unit} (k : Nat) (hgk : Tryz.prog.globalNamed nm = some k) (htk : (Tryz.prog.globals[k]?).map (·.type) = some 171) (hd0 : d = .agg (zs.map fun z => .lit (.int .i64 z)))
    (hg : Tryz.prog.globalNamed nm = some g) (ht : (Tryz.prog.globals[g]?).map (·.type) = some t) (hv : W.var? Tryz.prog nm = some cs) (hd : DataW.trod (fun _ => ()) Tryz.prog W 0 (fun _ => true) false fuel t cs.toList = some (d, p)) :
    ∀ (i : Nat) (z : Int), zs[i]? = some z → W.cell? ⟨k, i, none⟩ = some (.int .i64 z) := by
  obtain rfl := Option.some.inj (hgk.symm.trans hg)
  obtain rfl := Option.some.inj (htk.symm.trans ht)
  subst hd0
  intro i z hz
  have h1 := ints_of_trod Tryz.underlying171 Tryz.underlying3 cellsInt hd i z hz
  rw [World.var?_cell hgk hv i]
  simpa using h1
theorem table_str {W : World} {nm : String} {g t ty m : Nat} {cs : Array Value} {fuel : Nat} {p : List MemPlace} {zs : List Txt} {d : DataW Unit} (k : Nat) (hgk : Tryz.prog.globalNamed nm = some k) (htk : (Tryz.prog.globals[k]?).map (·.type) = some ty) (hu : Tryz.prog.underlying ty = some (.array m 9)) (hd0 : d = .agg (zs.map fun z => .lit (.string z)))
    (hg : Tryz.prog.globalNamed nm = some g) (ht : (Tryz.prog.globals[g]?).map (·.type) = some t) (hv : W.var? Tryz.prog nm = some cs) (hd : DataW.trod (fun _ => ()) Tryz.prog W 0 (fun _ => true) false fuel t cs.toList = some (d, p)) :
    ∀ (i : Nat) (z : Txt), zs[i]? = some z → W.cell? ⟨k, i, none⟩ = some (.string (bsOf z)) := by
  obtain rfl := Option.some.inj (hgk.symm.trans hg)
  obtain rfl := Option.some.inj (htk.symm.trans ht)
  subst hd0
  intro i z hz
  have h1 := strs_of_trod hu Tryz.underlying9 cellsStr hd i z hz
  rw [World.var?_cell hgk hv i]
  simpa using h1
theorem Tryz.own : ownKnob Tryz.prog.godebug = none := by kernel_rfl
theorem Tryz.laidOut : laidOutB Tryz.prog = true := by kernel_rfl
def laidAll : List (String × DataW Unit) := Rows.apartRow.laid
/-- The door's own heap meets the condition. -/
theorem door_met (os : Os) (args : Array Value) : laidMetH Tryz.prog laidAll ((World.doorLaid Tryz.prog 34 os).forCall (fun _ _ => 0) ⟨#[], args, []⟩).memory :=
  laidMetH_of_parts3 (fuel := 8) (laidMet_of_run' 8 (by kernel_rfl) (by kernel_rfl)) (by kernel_rfl) (by kernel_rfl)
theorem glob_of_laid {W : World} (h : laidMetH Tryz.prog laidAll W) : GlobB W ∧ GlobT W := by
  rw [MakeChecks.laidMetH_plain _ _ _ (by kernel_rfl)] at h
  obtain ⟨ps, ⟨g3, t3, cs3, f3, p3, q3, hg3, ht3, hv3, hd3, ⟨g4, t4, cs4, f4, p4, q4, hg4, ht4, hv4, hd4, ⟨g5, t5, cs5, f5, p5, q5, hg5, ht5, hv5, hd5, _, _⟩, _⟩, _⟩, _, _⟩ := h
  have hb := table_of 0 gBytes tyBytes dBytes hg3 ht3 hv3 hd3
  have hw := table_str 3 gWords tyWords undWords dWords hg4 ht4 hv4 hd4
  have ht := table_str 4 gSigns tySigns undSigns dSigns hg5 ht5 hv5 hd5
  have hlt : ∀ (k : Nat) (v : Value), W.cell? ⟨k, 0, none⟩ = some v → k < W.heap.size := fun k v hc => by
    by_cases h : k < W.heap.size
    · exact h
    · simp [World.cell?, Array.getElem?_eq_none (by omega : W.heap.size ≤ k)] at hc
  exact ⟨⟨fun c hc => hb c _ (tabBytes_eq c hc), hlt _ _ (hb 0 _ (tabBytes_eq 0 (by omega)))⟩, ⟨fun i hi => hw i _ (List.getElem?_eq_getElem hi), fun i hi => ht i _ (List.getElem?_eq_getElem hi), hlt _ _ (hw 0 _ rfl), hlt _ _ (ht 0 _ rfl)⟩⟩
section
variable {H : Type} {enc : TypeId × Value → H} {W : World} {b : Nat} {sp : Nat → Bool} {hd : Bool}
theorem in64_of_wf {n : Int} (h : (Lit.int .i64 n).wf = true) : In64 n := by
  simp [Lit.wf, IntKind.min, IntKind.max, IntKind.signed, IntKind.bits] at h
  unfold In64
  omega
theorem int_at {n k o : Nat} {cs : List Value} {y : DataW H × List MemPlace} (h : DataW.trod enc Tryz.prog W b sp hd n 3 ((cs.drop o).take k) = some y) (hk : k = 1) : ∃ z, cs[o]? = some (Value.int .i64 z) ∧ In64 z := by
  subst hk
  obtain ⟨z, e1, _, hw⟩ := DataW.trod_int Tryz.underlying3 h
  refine ⟨z, ?_, in64_of_wf hw⟩
  have h3 : ((cs.drop o).take 1)[0]? = some (Value.int .i64 z) := by rw [e1]; rfl
  rw [List.getElem?_take, if_pos (by omega), List.getElem?_drop] at h3
  simpa using h3
theorem bool_at {n k o : Nat} {cs : List Value} {y : DataW H × List MemPlace} (h : DataW.trod enc Tryz.prog W b sp hd n 4 ((cs.drop o).take k) = some y) (hk : k = 1) : ∃ z, cs[o]? = some (Value.bool z) := by
  subst hk
  obtain ⟨z, e1, _⟩ := DataW.trod_bool Tryz.underlying4 h
  refine ⟨z, ?_⟩
  have h3 : ((cs.drop o).take 1)[0]? = some (Value.bool z) := by rw [e1]; rfl
  rw [List.getElem?_take, if_pos (by omega), List.getElem?_drop] at h3
  simpa using h3
theorem mov_of {n : Nat} {cs : List Value} {y : DataW H × List MemPlace} (h : DataW.trod enc Tryz.prog W b sp hd n 66 cs = some y) : ∃ m : Mov, (In64 m.bin ∧ In64 m.n) ∧ ∀ (j : Nat) (u : Value), (cellM m)[j]? = some u → cs[j]? = some u := by
  obtain ⟨xs, m, rfl, _, hl, hxl, hel⟩ := DataW.trod_struct Tryz.underlying66 h
  have hx : ∀ i, i < xs.length → ∃ z, xs[i]? = some z := fun i hi => ⟨_, List.getElem?_eq_getElem hi⟩
  simp only [List.size_toArray, List.length_cons, List.length_nil] at hxl
  have f0 := hel 0 _ rfl
  have f1 := hel 1 _ rfl
  have f2 := hel 2 _ rfl
  obtain ⟨y0, g0⟩ := hx 0 (by omega)
  rw [g0] at f0
  obtain ⟨y1, g1⟩ := hx 1 (by omega)
  rw [g1] at f1
  obtain ⟨y2, g2⟩ := hx 2 (by omega)
  rw [g2] at f2
  obtain ⟨z0, e0⟩ := bool_at f0 cellsBool
  obtain ⟨z1, e1, w1⟩ := int_at f1 cellsInt
  obtain ⟨z2, e2, w2⟩ := int_at f2 cellsInt
  refine ⟨⟨z0, z1, z2⟩, ⟨w1, w2⟩, fun j u hj => ?_⟩
  match j, hj with
  | 0, hj => cases hj; exact e0
  | 1, hj => cases hj; exact e1
  | 2, hj => cases hj; exact e2
theorem cellsM_length (l : List Mov) : (cellsM l).length = l.length * 3 := by
  induction l with
  | nil => rfl
  | cons a r ih => simp only [cellsM, List.flatMap_cons, List.length_append, List.length_cons] at ih ⊢; rw [ih]; simp [cellM]; omega
theorem add_plainK (b o j : Nat) : (⟨b, o, none⟩ : Addr).add j = ⟨b, o + j, none⟩ := by
  unfold Addr.add
  split <;> simp_all
set_option maxRecDepth 100000 in
theorem moves_of {r : Reach} {b0 : Nat} {v : Value} {d : DataW H} {ps : List MemPlace} (hval : Value.okWide Tryz.prog W r b0 63 v) (h : DataW.Trod enc Tryz.prog W 0 sp hd 63 v d ps) : ∃ ms : List Mov, ms.length ≤ maxLen ∧ (∀ m ∈ ms, In64 m.bin ∧ In64 m.n) ∧ ((∃ a c, v = .slice a ms.length c) ∧ (0 < ms.length → Reads W v ms.length (cellsM ms))) := by
  obtain ⟨a0, len, cap, rfl⟩ := okWide_slice Tryz.underlying63 hval
  obtain ⟨fuel, hf⟩ := h
  rcases DataW.trod_slice Tryz.underlying63 hf with ⟨hcs, _⟩ | ⟨a, len', cap', elems, rest, n, rfl, hcs, hx, hb, hl, hm, hlen, hel, _, _⟩
  · simp [Value.cells] at hcs
    obtain ⟨rfl, rfl, rfl⟩ := hcs
    exact ⟨[], Nat.zero_le _, by simp, ⟨_, _, rfl⟩, fun h => absurd h (by simp)⟩
  simp [Value.cells] at hcs
  obtain ⟨rfl, rfl, rfl⟩ := hcs
  have hex : ∀ i, ∃ m : Mov, i < len → (In64 m.bin ∧ In64 m.n) ∧ ∀ (j : Nat) (u : Value), (cellM m)[j]? = some u → W.cell? ((a.add (i * 3)).add j) = some u := by
    intro i
    by_cases hi : i < len
    · have h1 := hel i hi
      rw [cellsMov, List.getElem?_eq_getElem (by omega : i < elems.length)] at h1
      obtain ⟨cs', h2, h3⟩ := Option.bind_eq_some_iff.1 h1
      obtain ⟨_, hcl, hcc⟩ := World.cells?_some h2
      obtain ⟨m, hm1, hm2⟩ := mov_of h3
      refine ⟨m, fun _ => ⟨hm1, fun j u hj => ?_⟩⟩
      have hj3 : j < 3 := by have := (List.getElem?_eq_some_iff.1 hj).1; simpa [cellM] using this
      rw [hcc j hj3]
      exact hm2 j u hj
    · exact ⟨⟨false, 0, 0⟩, fun h => absurd h hi⟩
  have hos := fun i => Classical.choose_spec (hex i)
  generalize hf' : (fun i => Classical.choose (hex i)) = f at *
  have hos' : ∀ i, i < len → (In64 (f i).bin ∧ In64 (f i).n) ∧ ∀ (j : Nat) (u : Value), (cellM (f i))[j]? = some u → W.cell? ((a.add (i * 3)).add j) = some u := by
    intro i
    rw [← hf']
    exact hos i
  clear hos hf'
  refine ⟨(List.range len).map f, by simp; omega, ?_, ⟨some a, cap, by simp⟩, fun hpos => ?_⟩
  · intro m hm
    obtain ⟨i, hi, rfl⟩ := List.mem_map.1 hm
    exact (hos' i (List.mem_range.1 hi)).1
  · simp at hpos
    obtain ⟨bk, off, spot⟩ := a
    have hc0 := (hos' 0 hpos).2 0 _ rfl
    have hspot : spot = none := by simpa [Addr.add] using World.cell?_spot hc0
    subst hspot
    have hbk : bk < W.heap.size := by
      by_cases h : bk < W.heap.size
      · exact h
      · simp [World.cell?, Addr.add, Array.getElem?_eq_none (by omega : W.heap.size ≤ bk)] at hc0
    refine .inr ⟨bk, off, cap, by simp, by simp; omega, hbk, fun j u hj => ?_⟩
    have hjl : j < len * 3 := by
      have := (List.getElem?_eq_some_iff.1 hj).1
      rw [cellsM_length] at this
      simpa using this
    have hj' := cellsM_at ((List.range len).map f) (j / 3) (by simp; omega) (j % 3) (by omega)
    rw [show j / 3 * 3 + j % 3 = j by omega] at hj'
    rw [hj'] at hj
    simp only [List.getElem_map, List.getElem_range] at hj
    have := (hos' (j / 3) (by omega)).2 (j % 3) u hj
    rw [add_plainK, add_plainK, Nat.add_assoc, show j / 3 * 3 + j % 3 = j by omega] at this
    exact this
theorem str_arg {P : Program} {r : Reach} {b0 base : Nat} {t : TypeId} {v : Value} {d : DataW H} {ps : List MemPlace} (ht : P.underlying t = some .string) (hval : Value.okWide P W r b0 t v) (h : DataW.Trod enc P W base sp hd t v d ps) : ∃ s : ByteArray, v = .string s ∧ s.size ≤ maxLen := by
  obtain ⟨s, rfl⟩ := okWide_string ht hval
  obtain ⟨fuel, hf⟩ := h
  obtain ⟨m, h1, _, h3⟩ := DataW.trod_string ht hf
  have : s = m := by simpa [Value.cells] using h1
  subst this
  exact ⟨s, rfl, h3⟩
end
end Go.Proofs.YtnnbhebklnappaaGreatDoor

set_option linter.unusedVariables false
set_option linter.unusedSimpArgs false
namespace Go.Proofs.YtnnbhebklnappaaGreatDoor
open Go.RowKit Go.ChangeShapes Go.WideShapes Go.ChangeAt

theorem trodAll_thr {H : Type} {enc : TypeId × Value → H} {P : Program} {w : World} {base : Nat} {spare : Nat → Bool} {held : Bool} {t1 t2 t3 : TypeId} {args : Array Value} {ds : List (DataW H)} {ps : List MemPlace} (h : DataW.TrodAll enc P w base spare held [t1, t2, t3] args.toList ds ps) :
    ∃ v1 v2 v3 d1 d2 d3 p1 p2 p3, args = #[v1, v2, v3] ∧ ds = [d1, d2, d3] ∧ ps = p1 ++ (p2 ++ p3) ∧ DataW.Trod enc P w base spare held t1 v1 d1 p1 ∧ DataW.Trod enc P w base spare held t2 v2 d2 p2 ∧ DataW.Trod enc P w base spare held t3 v3 d3 p3 := by
  obtain ⟨v1, vs1, d1, ds1, p1, q1, hargs, rfl, rfl, hd1, h1⟩ := trodAll_cons h
  obtain ⟨v2, vs2, d2, ds2, p2, q2, rfl, rfl, rfl, hd2, h2⟩ := trodAll_cons h1
  obtain ⟨v3, vs3, d3, ds3, p3, q3, rfl, rfl, rfl, hd3, h3⟩ := trodAll_cons h2
  obtain ⟨rfl, rfl, rfl⟩ := trodAll_nil h3
  exact ⟨v1, v2, v3, d1, d2, d3, p1, p2, p3, by cases args; simp_all, rfl, by simp, hd1, hd2, hd3⟩
set_option maxRecDepth 100000 in
theorem apart_lifted (os : Os) (started : os.Started) (H : Type) (enc : TypeId × Value → H) :
    ReturnsInHanded {} Tryz.checked os 5 .any (fun w args => (Rows.apartSpec.pre enc Tryz.prog Tryz.f5 [] false w args ∧ laidMetH Tryz.prog laidAll w) ∧ sizedMet enc Tryz.prog Tryz.f5 (OpenSpec.ofChange Rows.apartSpec) false w args)
      (Rows.apartSpec.post enc Tryz.prog Tryz.f5 false true false false) := by
  refine returnsInHanded_of_change_and (C := Tryz.checked) (X := fun w _ => laidMetH Tryz.prog laidAll w) (fun _ _ _ hh h => h.of_heap hh) Tryz.own started (by kernel_rfl) Tryz.func5
    (ChangeSpec.witness_shaped (enc := enc) (C := Tryz.checked) (os := os) (X := fun w _ => laidMetH Tryz.prog laidAll w) false (World.doorLaid Tryz.prog 34 os) #[.string ⟨#[]⟩, .string ⟨#[]⟩, .slice none 0 0] 8 rfl (World.shaped_of_RefB (by kernel_rfl) (by kernel_rfl)) (by kernel_rfl) (by kernel_rfl) (by kernel_rfl) (door_met os _)) ?_
  intro W base args ds gs before hval0 hW _ _ hL _
  have hval : ∀ (j : Nat) t v, Tryz.f5.params[j]? = some t → args[j]? = some v → Value.okWide Tryz.prog W .any base t v := hval0
  have hW' := hW
  have hlt := hW.lt
  obtain ⟨p, q, hA0, hV, rfl, hfz, hnd⟩ := hW
  have hA : DataW.TrodAll enc Tryz.prog W 0 (fun _ => true) true Tryz.f5.params.toList args.toList ds p := hA0
  rw [Tryz.params5] at hA hval
  obtain ⟨v1, v2, v3, d1, d2, d3, p1, p2, p3, rfl, rfl, rfl, h1, h2, h3⟩ := trodAll_thr hA
  obtain ⟨rfl, rfl⟩ := trodVars_none hV
  simp only [List.append_nil] at hW' hlt
  obtain ⟨s, rfl, hs⟩ := str_arg Tryz.underlying9 (hval 0 9 v1 rfl rfl) h1
  obtain ⟨t, rfl, ht⟩ := str_arg Tryz.underlying9 (hval 1 9 v2 rfl rfl) h2
  obtain ⟨ms, hml, hin, hmv⟩ := moves_of (hval 2 63 v3 rfl rfl) h3
  obtain ⟨hgb, hgt⟩ := glob_of_laid hL
  refine (Apart_any s t hs ht v3 ms hin hml W hgt ⟨hgb.bytes, hgb.size⟩ hmv).mono fun e W' ⟨hbl, he⟩ => ?_
  subst he
  exact ⟨_, rfl, ⟨_, _, _, [], _, [], hW', trodAll_mk1 (shut_bool Tryz.underlying4 _), trodAll_cons_mk (Below.trod Tryz.laidOut (by kernel_rfl) (of_decide_eq_true (by kernel_rfl)) h1 hbl (fun x hx => hlt x (by simp [hx]))) (trodAll_cons_mk (Below.trod Tryz.laidOut (by kernel_rfl) (of_decide_eq_true (by kernel_rfl)) h2 hbl (fun x hx => hlt x (by simp [hx]))) (trodAll_mk1 (Below.trod Tryz.laidOut (by kernel_rfl) (of_decide_eq_true (by kernel_rfl)) h3 hbl (fun x hx => hlt x (by simp [hx]))))), rfl, hbl.frame _, fun h => by cases h⟩⟩
theorem apart_holds : Rows.ApartSaid :=
  OpenClaim.holds_of_wide 5 Tryz.f5 rfl rfl rfl rfl rfl rfl rfl ⟨rfl, rfl, rfl, rfl, rfl⟩ rfl rfl rfl rfl rfl (by kernel_rfl) Tryz.func5 (by kernel_rfl)
    (of_decide_eq_true (by kernel_rfl)) (by unfold Func.isWrapper; first | (rw [if_pos (by decide +kernel)]; kernel_rfl) | (rw [if_neg (by decide +kernel)]; exact ⟨rfl, rfl⟩))
    (fun os started H enc _ => apart_lifted os started H enc)
end Go.Proofs.YtnnbhebklnappaaGreatDoor

set_option linter.unusedVariables false
set_option linter.unusedSimpArgs false
namespace Go.Proofs.YtnnbhebklnappaaGreatDoor
open Go

theorem apart_card : Rows.ApartCardSaid :=
  Claim7.holds_tied_plain_at .later [] Rows.apartCard.laidKinds true Rows.apartCard.stood.harness false
    apart_holds (fun _ h => by cases h) (by kernel_rfl) (fun _ h => by cases h) apart_row_tie rfl ⟨rfl, rfl⟩ (by kernel_rfl) rfl
    (fun f fn hf hfn => by
      obtain rfl : f = 5 := Option.some.inj ((show Tryz.prog.funcNamed Rows.apartRow.func = some 5 by kernel_rfl).symm.trans hf) |>.symm
      obtain rfl : fn = Tryz.f5 := (Option.some.inj (Tryz.func5.symm.trans hfn)).symm
      exact ⟨by kernel_rfl, fun j t ht => by
        rw [Tryz.params5] at ht
        have hm : t ∈ [ 9, 9, 63] := by simpa using Array.mem_of_getElem? ht
        have hall : ([ 9, 9, 63].all fun u => !Tryz.prog.wantsStandIn u) = true := by kernel_rfl
        exact (show Tryz.prog.wantsStandIn t = false by simpa using List.all_eq_true.1 hall t hm)⟩)
    (by kernel_rfl)
#print axioms apart_card
end Go.Proofs.YtnnbhebklnappaaGreatDoor
