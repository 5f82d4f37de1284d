/-
  What the program's small functions on operations do: hasHead, lowestFirst, At, Takes, Lays, Ends, Jumps, Target.
  The program's tables, out of what its text lays: each cell of them.
  The program's words and signs, out of what its text lays.
-/
import Derived.Test.YtkbbdfeobcklhaaGreatDoorX49
import Derived.Test.YtkbbdfeobcklhaaGreatDoorX01
import Derived.Test.YtkbbdfeobcklhaaGreatDoorX50
import Derived.Laws.BitsAllLaws
import Derived.Test.YtkbbdfeobcklhaaGreatDoorRows
import Derived.ProofKit
import Derived.LaidMore
import Derived.OpenShut
import Derived.Stop.Joined
import Derived.Test.YtkbbdfeobcklhaaGreatDoorX05
set_option linter.unusedVariables false
set_option linter.unusedSimpArgs false
namespace Go.Proofs.YtkbbdfeobcklhaaGreatDoor
open Go.RowKit

/-- The program's three tables lie in memory as its text lays them. -/
structure GlobP (w : World) : Prop where
  bytes : ∀ c, c < 18 → w.cell? ⟨0, c, none⟩ = some (.int .i64 (behindN c))
  takes : ∀ c, c < 18 → w.cell? ⟨1, c, none⟩ = some (.int .i64 (takesN c))
  lays : ∀ c, c < 18 → w.cell? ⟨2, c, none⟩ = some (.int .i64 (laysN c))
  size : 0 < w.heap.size ∧ 1 < w.heap.size ∧ 2 < w.heap.size
theorem GlobP.below {w w' : World} (h : GlobP w) (hb : Below w.heap.size w w') : GlobP w' :=
  ⟨fun c hc => (hb.cell (p := ⟨0, c, none⟩) h.size.1).trans (h.bytes c hc), fun c hc => (hb.cell (p := ⟨1, c, none⟩) h.size.2.1).trans (h.takes c hc), fun c hc => (hb.cell (p := ⟨2, c, none⟩) h.size.2.2).trans (h.lays c hc), ⟨Nat.lt_of_lt_of_le h.size.1 hb.size, Nat.lt_of_lt_of_le h.size.2.1 hb.size, Nat.lt_of_lt_of_le h.size.2.2 hb.size⟩⟩

def headB (s : ByteArray) : Bool := decide (4 ≤ s.size) && decide (s.size ≤ 4000) && decide (bt s 0 = 83) && decide (bt s 1 = 76)
theorem headB_iff (s : ByteArray) : headB s = true ↔ HeadOk s := by
  unfold headB HeadOk
  simp only [Bool.and_eq_true, decide_eq_true_eq, and_assoc]
theorem headB_false {s : ByteArray} (h : ¬ HeadOk s) : headB s = false := by
  cases hb : headB s
  · rfl
  · exact absurd ((headB_iff s).1 hb) h
set_option maxHeartbeats 400000 in
theorem hasHead_any (s : ByteArray) (w : World) :
    Calls Tryz.prog 73 #[.string s] w fun e w' => e = .returned (.bool (headB s)) ∧ w' = w := by
  by_cases h1 : s.size ≤ 3
  · go_enter Tryz.func73, Tryz.ntmps73
    go_wp2
    go_ret
    exact ⟨ret_bool (by symm; apply headB_false; intro h; have := h.1; omega), rfl⟩
  by_cases h2 : 4000 < s.size
  · go_enter Tryz.func73, Tryz.ntmps73
    go_wp2
    go_ret
    exact ⟨ret_bool (by symm; apply headB_false; intro h; have := h.2.1; omega), rfl⟩
  have hi0 := fun wx => run_index_nat (P := Tryz.prog) wx 9 s .i64 0 0 Tryz.underlying9 rfl (by omega)
  have hi1 := fun wx => run_index_nat (P := Tryz.prog) wx 9 s .i64 1 1 Tryz.underlying9 rfl (by omega)
  have HB0 : Hid (bt s 0 = s[0].toNat) := bt_get s 0 (by omega)
  have HB1 : Hid (bt s 1 = s[1].toNat) := bt_get s 1 (by omega)
  obtain ⟨c0, hc0⟩ : ∃ c, c = (s[0]'(by omega)).toNat := ⟨_, rfl⟩
  obtain ⟨c1, hc1⟩ : ∃ c, c = (s[1]'(by omega)).toNat := ⟨_, rfl⟩
  rw [← hc0] at hi0 HB0
  rw [← hc1] at hi1 HB1
  clear hc0 hc1
  have HD : Hid (headB s = (((c0 : Int) == 83) && ((c1 : Int) == 76))) := (by
    rw [Bool.eq_iff_iff, headB_iff]
    unfold HeadOk
    rw [HB0.out, HB1.out]
    simp
    omega : headB s = (((c0 : Int) == 83) && ((c1 : Int) == 76)))
  cases h3 : ((c0 : Int) == 83)
  all_goals
    go_enter Tryz.func73, Tryz.ntmps73
    go_wp2
    go_ret
    exact ⟨ret_bool (by rw [HD.out]; simp [h3]), rfl⟩

theorem bt_ext (s : ByteArray) (a b i : Nat) (h : i < (s.extract a b).size) : bt (s.extract a b) i = bt s (a + i) := by
  have h2 : a + i < s.size := by rw [ByteArray.size_extract] at h; omega
  rw [bt_get _ _ h, bt_get _ _ h2]
  congr 1
  have h3 := getElem_toList (s.extract a b) i h
  have h4 := getElem_toList s (a + i) h2
  have e : (s.extract a b).toList = (s.toList.drop a).take (b - a) := by rw [extract_bsOf, bsOf_toList]
  rw [ByteArray.size_extract] at h
  rw [e, List.getElem?_take, if_pos (by omega), List.getElem?_drop, h4] at h3
  exact (Option.some.inj h3).symm
theorem lowU_ext (s : ByteArray) (a b : Nat) : ∀ (n k : Nat), k + n ≤ (s.extract a b).size → lowU (s.extract a b) k n = lowU s (a + k) n
  | 0, _, _ => rfl
  | n + 1, k, h => by
    simp only [lowU]
    rw [bt_ext s a b k (by omega), lowU_ext s a b n (k + 1) (by omega), Nat.add_assoc]
theorem lowU_lt (s : ByteArray) : ∀ (n k : Nat), lowU s k n < 256 ^ n
  | 0, _ => by simp [lowU]
  | n + 1, k => by
    have h1 := lowU_lt s n (k + 1)
    have h2 := bt_lt s k
    simp only [lowU, Nat.pow_succ]
    omega
theorem or_low (L b : Nat) (hL : L < 72057594037927936) (hb : b < 256) : bits .or .u64 (IntKind.u64.wrap ((L : Int) * 256)) (IntKind.u64.wrap (b : Nat)) = ((b + 256 * L : Nat) : Int) := by
  rw [IntWalk.u64_in _ ⟨by omega, by omega⟩, IntWalk.u64_in _ ⟨by omega, by omega⟩]
  have e : (L : Int) * 256 = ((L * 256 : Nat) : Int) := by omega
  rw [e, u64_or_nat _ _ (by omega) (by omega)]
  have h := Nat.shiftLeft_add_eq_or_of_lt (i := 8) (b := b) (by omega) L
  rw [Nat.shiftLeft_eq] at h
  rw [← h]
  omega
set_option maxHeartbeats 1000000 in
theorem lowestFirst_any (t : ByteArray) (ht : t.size ≤ 8) (w : World) :
    Calls Tryz.prog 119 #[.string t] w fun e w' => e = .returned (.int .i64 (IntKind.i64.wrap (lowU t 0 t.size : Nat))) ∧ w' = w := by
  go_enter Tryz.func119, Tryz.ntmps119
  go_wp2
  go_loop [3, 4] (fun v i => ∃ j : Nat, j ≤ t.size ∧ i = .int .i64 ((j : Int) - 1) ∧ v = .int .u64 (lowU t j (t.size - j) : Nat)) (fun _ i => (intOf i + 1).toNat)
  case atStart => exact ⟨t.size, Nat.le_refl _, by go_num, by simp [lowU]⟩
  case round =>
    obtain ⟨j, hj, rfl, rfl⟩ := hrel
    by_cases h0 : 0 < j
    · have hb : j - 1 < t.size := by omega
      have hbt : (t[j - 1]'hb).toNat = bt t (j - 1) := (bt_get t _ hb).symm
      have hix := fun wx => run_index_nat (P := Tryz.prog) wx 9 t .i64 ((j : Int) - 1) (j - 1) Tryz.underlying9 (by omega) hb
      go_wp2
      go_round
      case rel => exact ⟨j - 1, by omega, by go_num, by
          have hL := lowU_lt t (t.size - j) j
          have h7 : 256 ^ (t.size - j) ≤ 256 ^ 7 := Nat.pow_le_pow_right (by omega) (by omega)
          have e := lowU_step t 0 j t.size h0 hj
          simp only [Nat.zero_add] at e
          rw [e, or_low _ _ (by omega) (bt_lt t (j - 1))]⟩
      case measure => simp [intOf]; omega
    · go_wp2
      go_ret
      have : j = 0 := by omega
      subst this
      exact ⟨ret_int (by rw [IntWalk.i64_left]; simp), rfl⟩
end Go.Proofs.YtkbbdfeobcklhaaGreatDoor

set_option linter.unusedVariables false
set_option linter.unusedSimpArgs false
namespace Go.Proofs.YtkbbdfeobcklhaaGreatDoor
open Go.RowKit Go.ChangeShapes Go.WideShapes Go.ChangeAt

/-- A row of numbers that reads so: its cells. -/
theorem ints_of_trod {H : Type} {enc : TypeId × Value → H} {P : Program} {W : World} {sp : Nat → Bool} {hd : Bool} {t e : TypeId} {m fuel : Nat} {cs : List Value} {zs : List Int} {q : List MemPlace} (ht : P.underlying t = some (.array m e)) (he : P.underlying e = some (.int .i64)) (hc : P.cellsOf e = 1)
    (hd' : DataW.trod enc P W 0 sp hd fuel t cs = some (.agg (zs.map fun z => .lit (.int .i64 z)), q)) : ∀ (i : Nat) (z : Int), zs[i]? = some z → cs[i]? = some (Value.int .i64 z) := by
  obtain ⟨xs, m1, rfl, hx, hlen, hxm, hel⟩ := DataW.trod_array ht hd'
  intro i z hz
  simp only [Prod.mk.injEq, DataW.agg.injEq] at hx
  have hl : zs.length = xs.length := by have := congrArg List.length hx.1; simpa using this
  have hi : i < zs.length := (List.getElem?_eq_some_iff.1 hz).1
  have h1 := hel i (by omega)
  rw [hc, List.getElem?_eq_getElem (by omega : i < xs.length)] at h1
  obtain ⟨k, e1, e2, _⟩ := DataW.trod_int he h1
  have h2 : (zs.map fun z => (DataW.lit (.int .i64 z) : DataW H))[i]? = (xs.map (·.1))[i]? := by rw [hx.1]
  rw [List.getElem?_map, List.getElem?_map, hz, List.getElem?_eq_getElem (by omega : i < xs.length), Option.map_some, Option.map_some, e2] at h2
  have hk : k = z := by simpa using h2.symm
  subst hk
  have h3 : ((cs.drop (i * 1)).take 1)[0]? = some (.int .i64 k) := by rw [e1]; rfl
  rw [List.getElem?_take, if_pos (by omega), List.getElem?_drop] at h3
  simpa using h3

def tabBytes : List Int := [8, 1, 0, 0, 0, 0, 0, 0, 0, 0, 0, 0, 0, 2, 2, 2, 0, 0]
def tabTakes : List Int := [0, 0, 1, 1, 2, 2, 2, 2, 2, 2, 2, 2, 2, 0, 1, 1, 1, 0]
def tabLays : List Int := [1, 1, 1, 1, 1, 1, 1, 1, 1, 1, 1, 1, 1, 0, 0, 0, 0, 0]
theorem tabBytes_eq : ∀ c, c < 18 → tabBytes[c]? = some ((behindN c : Nat) : Int) := by decide
theorem tabTakes_eq : ∀ c, c < 18 → tabTakes[c]? = some ((takesN c : Nat) : Int) := by decide
theorem tabLays_eq : ∀ c, c < 18 → tabLays[c]? = some ((laysN c : Nat) : Int) := by decide
theorem dBytes : (Rows.laid_slots_program_bytesBehind : DataW Unit) = .agg (tabBytes.map fun z => .lit (.int .i64 z)) := rfl
theorem dTakes : (Rows.laid_slots_program_takes : DataW Unit) = .agg (tabTakes.map fun z => .lit (.int .i64 z)) := rfl
theorem dLays : (Rows.laid_slots_program_lays : DataW Unit) = .agg (tabLays.map fun z => .lit (.int .i64 z)) := rfl
/-- The name of a listed variable. -/
def laidName (i : Nat) : String := ((Rows.verifiesRow.laid[i]?).map (·.1)).getD default
theorem gBytes : Tryz.prog.globalNamed (laidName 3) = some 0 := by kernel_rfl
theorem gTakes : Tryz.prog.globalNamed (laidName 4) = some 1 := by kernel_rfl
theorem gLays : Tryz.prog.globalNamed (laidName 5) = some 2 := by kernel_rfl
theorem tyBytes : (Tryz.prog.globals[0]?).map (·.type) = some 166 := by kernel_rfl
theorem tyTakes : (Tryz.prog.globals[1]?).map (·.type) = some 166 := by kernel_rfl
theorem tyLays : (Tryz.prog.globals[2]?).map (·.type) = some 166 := by kernel_rfl
theorem cellsInt : Tryz.prog.cellsOf 3 = 1 := by kernel_rfl
/-- One table of eighteen numbers. -/
theorem table_of {W : World} {nm : String} {g t : Nat} {cs : Array Value} {fuel : Nat} {p : List MemPlace} {zs : List Int} {d : DataW Unit} (k : Nat) (hgk : Tryz.prog.globalNamed nm = some k) (htk : (Tryz.prog.globals[k]?).map (·.type) = some 166) (hd0 : d = .agg (zs.map fun z => .lit (.int .i64 z)))
    (hg : Tryz.prog.globalNamed nm = some g) (ht : (Tryz.prog.globals[g]?).map (·.type) = some t) (hv : W.var? Tryz.prog nm = some cs) (hd : DataW.trod (fun _ => ()) Tryz.prog W 0 (fun _ => true) false fuel t cs.toList = some (d, p)) :
    ∀ (i : Nat) (z : Int), zs[i]? = some z → W.cell? ⟨k, i, none⟩ = some (.int .i64 z) := by
  obtain rfl := Option.some.inj (hgk.symm.trans hg)
  obtain rfl := Option.some.inj (htk.symm.trans ht)
  subst hd0
  intro i z hz
  have h1 := ints_of_trod Tryz.underlying166 Tryz.underlying3 cellsInt hd i z hz
  rw [World.var?_cell hgk hv i]
  simpa using h1
end Go.Proofs.YtkbbdfeobcklhaaGreatDoor

set_option linter.unusedVariables false
set_option linter.unusedSimpArgs false
namespace Go.Proofs.YtkbbdfeobcklhaaGreatDoor
open Go.RowKit Go.ChangeShapes Go.WideShapes Go.ChangeAt

theorem strs_of_trod {H : Type} {enc : TypeId × Value → H} {P : Program} {W : World} {sp : Nat → Bool} {hd : Bool} {t e : TypeId} {m fuel : Nat} {cs : List Value} {zs : List Txt} {q : List MemPlace} (ht : P.underlying t = some (.array m e)) (he : P.underlying e = some .string) (hc : P.cellsOf e = 1)
    (hd' : DataW.trod enc P W 0 sp hd fuel t cs = some (.agg (zs.map fun z => .lit (.string z)), q)) : ∀ (i : Nat) (z : Txt), zs[i]? = some z → cs[i]? = some (Value.string (bsOf z)) := by
  obtain ⟨xs, m1, rfl, hx, hlen, hxm, hel⟩ := DataW.trod_array ht hd'
  intro i z hz
  simp only [Prod.mk.injEq, DataW.agg.injEq] at hx
  have hl : zs.length = xs.length := by have := congrArg List.length hx.1; simpa using this
  have hi : i < zs.length := (List.getElem?_eq_some_iff.1 hz).1
  have h1 := hel i (by omega)
  rw [hc, List.getElem?_eq_getElem (by omega : i < xs.length)] at h1
  obtain ⟨k, e1, e2, _⟩ := DataW.trod_string he h1
  have h2 : (zs.map fun z => (DataW.lit (.string z) : DataW H))[i]? = (xs.map (·.1))[i]? := by rw [hx.1]
  rw [List.getElem?_map, List.getElem?_map, hz, List.getElem?_eq_getElem (by omega : i < xs.length), Option.map_some, Option.map_some, e2] at h2
  have hk : z = k.data.toList := by simpa using h2
  have hkb : bsOf z = k := by rw [hk]; cases k; simp [bsOf]
  rw [hkb]
  have h3 : ((cs.drop (i * 1)).take 1)[0]? = some (.string k) := by rw [e1]; rfl
  rw [List.getElem?_take, if_pos (by omega), List.getElem?_drop] at h3
  simpa using h3
theorem dWords : (Rows.laid_slots_token_words : DataW Unit) = .agg (tWords.map fun z => .lit (.string z)) := rfl
theorem dSigns : (Rows.laid_slots_token_signs : DataW Unit) = .agg (tSign.map fun z => .lit (.string z)) := rfl
def laidNameC (i : Nat) : String := ((Rows.checksRow.laid[i]?).map (·.1)).getD default
theorem gWords : Tryz.prog.globalNamed (laidNameC 6) = some 3 := by kernel_rfl
theorem gSigns : Tryz.prog.globalNamed (laidNameC 7) = some 4 := by kernel_rfl
theorem tyWords : (Tryz.prog.globals[3]?).map (·.type) = some 210 := by kernel_rfl
theorem tySigns : (Tryz.prog.globals[4]?).map (·.type) = some 211 := by kernel_rfl
theorem undWords : Tryz.prog.underlying 210 = some (.array 19 9) := by kernel_rfl
theorem undSigns : Tryz.prog.underlying 211 = some (.array 12 9) := by kernel_rfl
theorem cellsStr' : Tryz.prog.cellsOf 9 = 1 := by kernel_rfl
theorem table_str {W : World} {nm : String} {g t ty m : Nat} {cs : Array Value} {fuel : Nat} {p : List MemPlace} {zs : List Txt} {d : DataW Unit} (k : Nat) (hgk : Tryz.prog.globalNamed nm = some k) (htk : (Tryz.prog.globals[k]?).map (·.type) = some ty) (hu : Tryz.prog.underlying ty = some (.array m 9)) (hd0 : d = .agg (zs.map fun z => .lit (.string z)))
    (hg : Tryz.prog.globalNamed nm = some g) (ht : (Tryz.prog.globals[g]?).map (·.type) = some t) (hv : W.var? Tryz.prog nm = some cs) (hd : DataW.trod (fun _ => ()) Tryz.prog W 0 (fun _ => true) false fuel t cs.toList = some (d, p)) :
    ∀ (i : Nat) (z : Txt), zs[i]? = some z → W.cell? ⟨k, i, none⟩ = some (.string (bsOf z)) := by
  obtain rfl := Option.some.inj (hgk.symm.trans hg)
  obtain rfl := Option.some.inj (htk.symm.trans ht)
  subst hd0
  intro i z hz
  have h1 := strs_of_trod hu Tryz.underlying9 cellsStr' hd i z hz
  rw [World.var?_cell hgk hv i]
  simpa using h1
def laidAllC : List (String × DataW Unit) := Rows.checksRow.laid
theorem globT_of_laid {W : World} (h : laidMetH Tryz.prog laidAllC W) : GlobT W := by
  rw [MakeChecks.laidMetH_plain _ _ _ (by kernel_rfl)] at h
  obtain ⟨ps, ⟨g0, t0, cs0, f0, p0, q0, hg0, ht0, hv0, hd0, ⟨g1, t1, cs1, f1, p1, q1, hg1, ht1, hv1, hd1, ⟨g2, t2, cs2, f2, p2, q2, hg2, ht2, hv2, hd2, ⟨g3, t3, cs3, f3, p3, q3, hg3, ht3, hv3, hd3, ⟨g4, t4, cs4, f4, p4, q4, hg4, ht4, hv4, hd4, ⟨g5, t5, cs5, f5, p5, q5, hg5, ht5, hv5, hd5, ⟨g6, t6, cs6, f6, p6, q6, hg6, ht6, hv6, hd6, ⟨g7, t7, cs7, f7, p7, q7, hg7, ht7, hv7, hd7, _, _⟩, _⟩, _⟩, _⟩, _⟩, _⟩, _⟩, _⟩, _, _⟩ := h
  have hb := table_str 3 gWords tyWords undWords dWords hg6 ht6 hv6 hd6
  have ht := table_str 4 gSigns tySigns undSigns dSigns hg7 ht7 hv7 hd7
  have hlt : ∀ (k : Nat) (v : Value), W.cell? ⟨k, 0, none⟩ = some v → k < W.heap.size := fun k v hc => by
    by_cases h : k < W.heap.size
    · exact h
    · simp [World.cell?, Array.getElem?_eq_none (by omega : W.heap.size ≤ k)] at hc
  exact ⟨fun i hi => hb i _ (List.getElem?_eq_getElem hi), fun i hi => ht i _ (List.getElem?_eq_getElem hi), hlt _ _ (hb 0 _ rfl), hlt _ _ (ht 0 _ rfl)⟩
end Go.Proofs.YtkbbdfeobcklhaaGreatDoor
