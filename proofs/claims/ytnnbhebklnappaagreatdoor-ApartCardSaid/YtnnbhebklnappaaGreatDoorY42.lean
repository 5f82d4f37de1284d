/-
  The document's Operations: of some bytes: the operations that stand there, or that there are none such.
  The document's ways: which operations may come behind an operation.
  The document's Heights: do the operations have heights as an image's must?
  What the program's verifier does with its heights: heightAt, refuseInside, reach.
-/
import Derived.Test.YtnnbhebklnappaaGreatDoorY41
import Derived.Test.YtnnbhebklnappaaGreatDoorY00
import Derived.Deep.LoopGhost
import Derived.Deep.Light
import Derived.Test.YtnnbhebklnappaaGreatDoorY10
set_option linter.unusedVariables false
set_option linter.unusedSimpArgs false
namespace Go.Proofs.YtnnbhebklnappaaGreatDoor
open Go.RowKit

theorem ext_two (s : ByteArray) (h : 2 ≤ s.size) : ((s.extract 0 2).toList == [83, 76]) = decide (bt s 0 = 83 ∧ bt s 1 = 76) := by
  rw [extract_bsOf, bsOf_toList, bt_get s 0 (by omega), bt_get s 1 (by omega)]
  have h0 := getElem_toList s 0 (by omega)
  have h1 := getElem_toList s 1 (by omega)
  cases hl : s.toList with
  | nil => rw [hl] at h0; simp at h0
  | cons a r =>
    cases r with
    | nil => rw [hl] at h1; simp at h1
    | cons b r =>
      rw [hl] at h0 h1
      simp at h0 h1
      rw [← h0, ← h1, Bool.eq_iff_iff]
      simp [← UInt8.toNat_inj]
/-- No row of operations goes on from a place at which none begins. -/
theorem no_chain {s : ByteArray} {l : List Ins} {p : Nat} (hc : Chain s 3 l p) (hp : p < s.size) (hb : ¬ OpOkI s p) : ∀ l', ¬ Chain s 3 l' s.size := by
  intro l' h'
  obtain ⟨r, rfl, hr⟩ := hc.pre h'
  cases r with
  | nil => have : p = s.size := hr; omega
  | cons o r => exact hb hr.1
theorem ins_step {w wr w2 : World} {l : List Ins} {v v' : Value} {e : TypeId} {o : Obj} {i : Ins} (hbel : Below w.heap.size w wr)
    (hown2 : w2.ownsRow w.heap.size e 4 v' (l.length + 1) (cellsV l ++ [.int .i64 i.pos, .int .i64 i.op, .int .i64 i.arg, .int .i64 i.next])) (hg : (wr.alloc o).grownBy w2 v.ownBlock) (hown : wr.ownsRow w.heap.size e 4 v l.length (cellsV l)) :
    w2.ownsRow w.heap.size e 4 v' (l ++ [i]).length (cellsV (l ++ [i])) ∧ Below w.heap.size w w2 := by
  have hs1 := hbel.size
  refine ⟨?_, ?_⟩
  · rw [cellsV_snoc, List.length_append]
    exact hown2
  · exact (hbel.alloc (by omega) o).grown hg (by simp; omega) (fun k hk => (hown.lt k hk).1)
end Go.Proofs.YtnnbhebklnappaaGreatDoor

set_option linter.unusedVariables false
set_option linter.unusedSimpArgs false
namespace Go.Proofs.YtnnbhebklnappaaGreatDoor
open Go.RowKit

def cellsKv (l : List Nat) : List Value := l.map fun (n : Nat) => .int .i64 n
theorem Tryz.infoInt : (Tryz.prog.info? 3).map (fun i => (i.zero, i.size, i.bytes)) = some (some (.int .i64 0), 1, 8) := by kernel_rfl
/-- What the list of the operations behind one must be; or that one of them is none. -/
def WaysAre (l : List Ins) (i : Nat) (e : Ending) (w w' : World) : Prop :=
  (∃ ks v, WaysOk l i ks ∧ e = .returned (.tuple #[v, .bool true]) ∧ w'.ownsRow w.heap.size 3 1 v ks.length (cellsKv ks)) ∨
  ((∃ q, Flows (nth l i) q ∧ ∀ k, k < l.length → (nth l k).pos ≠ q) ∧ e = .returned (.tuple #[.slice none 0 0, .bool false]))
/-- The next one in the list begins where this one ends. -/
theorem Chain.follow {s : ByteArray} : ∀ {l : List Ins} {p q : Nat}, Chain s p l q → ∀ i, i < l.length → (i + 1 < l.length → (nth l (i + 1)).pos = (nth l i).next) ∧ (¬ i + 1 < l.length → (nth l i).next = q)
  | [], _, _, _, i, hi => by simp at hi
  | a :: r, p, q, h, i, hi => by
    obtain ⟨h1, rfl, h3⟩ := h
    cases i with
    | zero =>
      refine ⟨fun h => ?_, fun h => ?_⟩
      · have hz := Chain.zero h3 (by simpa using h)
        have e1 : nth (mkIns s p :: r) (0 + 1) = nth r 0 := by simp [nth]
        have e2 : nth (mkIns s p :: r) 0 = mkIns s p := by simp [nth]
        rw [e1, e2, hz]
      · have : r = [] := by cases r with
          | nil => rfl
          | cons b r => simp at h
        subst this
        have e2 : nth [mkIns s p] 0 = mkIns s p := by simp [nth]
        rw [e2]; exact h3
    | succ i =>
      have e1 : nth (mkIns s p :: r) (i + 1 + 1) = nth r (i + 1) := by simp [nth]
      have e2 : nth (mkIns s p :: r) (i + 1) = nth r i := by simp [nth]
      rw [e1, e2]
      have := Chain.follow h3 i (by simpa using hi)
      simpa using this
/-- A first append leaves what was there. -/
theorem first_grown {w wa w2 : World} {X Y : Obj} {row : Option Nat} (hX : wa = w.alloc X) (hg : (wa.alloc Y).grownBy w2 row) (hrow : ∀ k, row = some k → wa.heap.size ≤ k) : Below wa.heap.size wa w2 := by
  subst hX
  exact ((Below.refl _ _).alloc (Nat.le_refl _) Y).grown hg (by simp) hrow
theorem nth_lt_size {s : ByteArray} {l : List Ins} {p q : Nat} (h : Chain s p l q) (k : Nat) (hk : k < l.length) : (nth l k).pos < (nth l k).next ∧ (nth l k).next ≤ q := by
  have hm := h.mem _ (nth_mem l k hk)
  refine ⟨?_, hm.2.1⟩
  have := next_pos s (nth l k).pos
  rw [← hm.2.2.2] at this
  exact this
/-- What stands behind an operation in memory. -/
structure InsAt (w : World) (g a : Nat) (o : Ins) : Prop where
  c0 : w.cell? ⟨g, a, none⟩ = some (.int .i64 o.pos)
  c1 : w.cell? ⟨g, a + 1, none⟩ = some (.int .i64 o.op)
  c2 : w.cell? ⟨g, a + 2, none⟩ = some (.int .i64 o.arg)
  c3 : w.cell? ⟨g, a + 3, none⟩ = some (.int .i64 o.next)
end Go.Proofs.YtnnbhebklnappaaGreatDoor

set_option linter.unusedVariables false
set_option linter.unusedSimpArgs false
namespace Go.Proofs.YtnnbhebklnappaaGreatDoor
open Go.RowKit

/-- A row of n numbers. -/
def arrH (hs : Nat → Int) (n : Nat) : Array Value := ((List.range n).map fun q => Value.int .i64 (hs q)).toArray
theorem arrH_get (hs : Nat → Int) (n i : Nat) (h : i < n) : (arrH hs n)[i]? = some (.int .i64 (hs i)) := by simp [arrH, h]
theorem arrH_size (hs : Nat → Int) (n : Nat) : (arrH hs n).size = n := by simp [arrH]
theorem arrH_set (hs : Nat → Int) (n k : Nat) (v : Int) : (arrH hs n).setIfInBounds k (.int .i64 v) = arrH (upd hs k v) n := by
  apply Array.ext
  · simp [arrH]
  · intro i h1 h2
    have hi : i < n := by simpa [arrH] using h2
    rw [Array.getElem_setIfInBounds (by simpa [arrH] using hi)]
    simp only [arrH, upd, List.getElem_toArray, List.getElem_map, List.getElem_range]
    by_cases h : k = i
    · subst h; simp
    · simp [h, Ne.symm h]
theorem arrH_congr {hs gs : Nat → Int} {n : Nat} (h : ∀ i, i < n → hs i = gs i) : arrH hs n = arrH gs n := by
  unfold arrH
  congr 1
  exact List.map_congr_left fun q hq => by rw [h q (by simpa using hq)]
theorem arrH_zero (n : Nat) : Array.replicate n (Value.int .i64 0) = arrH (fun _ => 0) n := by
  apply Array.ext
  · simp [arrH]
  · intro i h1 h2
    simp [arrH]
theorem made_zero (n : Nat) : madeCells (Value.int .i64 0).cells (n * 1) = arrH (fun _ => 0) n := by
  apply Array.ext
  · simp [arrH, madeCells]
  · intro i h1 h2
    have e : (Value.int .i64 0).cells = #[Value.int .i64 0] := rfl
    simp [e, arrH, madeCells, Nat.mod_one]
/-- The heights while they are laid. -/
def iniH (i : Nat) : Nat → Int := fun q => if 1 ≤ q ∧ q < i then -1 else 0
def startH : Nat → Int := fun q => if q = 0 then 0 else -1
theorem iniH_one (n : Nat) : arrH (fun _ => 0) n = arrH (iniH 1) n := arrH_congr fun q _ => by unfold iniH; rw [if_neg (by omega)]
theorem iniH_set (i n : Nat) (h : 1 ≤ i) : arrH (upd (iniH i) i (-1)) n = arrH (iniH (i + 1)) n := arrH_congr fun q _ => by
  unfold upd iniH
  by_cases h1 : q = i
  · rw [if_pos h1, if_pos (by omega)]
  · rw [if_neg h1]
    by_cases h2 : 1 ≤ q ∧ q < i
    · rw [if_pos h2, if_pos (by omega)]
    · rw [if_neg h2, if_neg (by omega)]
theorem iniH_end (i n : Nat) (h : n ≤ i) : arrH (iniH i) n = arrH startH n := arrH_congr fun q hq => by
  unfold iniH startH
  by_cases h1 : q = 0
  · rw [if_pos h1, if_neg (by omega)]
  · rw [if_neg h1, if_pos (by omega)]
theorem run_make_ints {P : Program} (w : World) (t e : TypeId) (i : TypeInfo) (ht : P.underlying t = some (.slice e)) (hi : P.info? e = some i) (hz : i.zero = some (.int .i64 0)) (hs : i.size = 1) (hb : i.bytes = 8) (n : Nat) (hn : n ≤ 4000) :
    (Instr.makeSlice t (.int .i64 n) (.int .i64 n)).run P w = .ok (.slice (some ⟨w.heap.size, 0, none⟩) n n) (w.alloc (.cells (arrH (fun _ => 0) n) e)) := by
  have := run_make (P := P) w t e i _ ht hi hz .i64 .i64 n n (by omega) (by omega) (by rw [hb]; omega) (by omega)
  rw [this, hs, Int.toNat_natCast, made_zero]
theorem own_setCell {w : World} {base : Nat} {e : TypeId} {size : Nat} {v : Value} {n : Nat} {xs : List Value} (h : w.ownsRow base e size v n xs) (p : Addr) (x : Value) (hp : p.block < base) : (w.setCell p x).ownsRow base e size v n xs := by
  refine ⟨h.1, ?_⟩
  rcases h.2 with hn | ⟨g, cap, cur, rfl, hbg, hg, r⟩
  · exact .inl hn
  · exact .inr ⟨g, cap, cur, rfl, hbg, by rw [Below.heap_setCell _ _ _ _ (by omega)]; exact hg, r⟩
/-- A row of one's own, that is not empty, written out. -/
theorem own_pos {w : World} {base : Nat} {e : TypeId} {a : Option Addr} {n c : Nat} {xs : List Value} (h : w.ownsRow base e 1 (.slice a n c) n xs) (hn : 0 < n) : ∃ g, a = some ⟨g, 0, none⟩ ∧ base ≤ g ∧ ∀ j u, xs[j]? = some u → w.cell? ⟨g, j, none⟩ = some u := by
  have hr := reads_of_own h
  rcases hr with ⟨_, h0, _⟩ | ⟨g, o, cap, he, _, _, hc⟩
  · omega
  rcases h.2 with hn' | ⟨g', cap', cur, he', hbg, _⟩
  · rw [hn'.1] at he; cases he
  · cases he
    cases he'
    exact ⟨g, rfl, hbg, fun j u hj => by have := hc j u hj; simpa using this⟩
theorem settled_zero (l : List Ins) (most : Nat) (hs : Nat → Int) : Settled l most hs 0 := fun j hj => by omega
end Go.Proofs.YtnnbhebklnappaaGreatDoor

set_option linter.unusedVariables false
set_option linter.unusedSimpArgs false
namespace Go.Proofs.YtnnbhebklnappaaGreatDoor
open Go.RowKit

def verCells (s : ByteArray) (most : Nat) (hb : Nat) (wg : Bool) : Array Value := #[.string s, .int .i64 most, .slice (some ⟨hb, 0, none⟩) s.size s.size, .bool wg]
/-- The verifier in memory. -/
structure VStv (w : World) (vb hb : Nat) (s : ByteArray) (most : Nat) (H : Nat → Int) (wg : Bool) : Prop where
  st : Blk w vb (verCells s most hb wg) 122
  ht : Blk w hb (arrH H s.size) 3
  ne : hb ≠ vb
theorem VStv.below {w w' : World} {vb hb : Nat} {s : ByteArray} {most : Nat} {H : Nat → Int} {wg : Bool} (h : VStv w vb hb s most H wg) (hbl : Below w.heap.size w w') : VStv w' vb hb s most H wg :=
  ⟨h.st.below hbl h.st.lt, h.ht.below hbl h.ht.lt, h.ne⟩
theorem VStv.c0 {w : World} {vb hb : Nat} {s : ByteArray} {most : Nat} {H : Nat → Int} {wg : Bool} (h : VStv w vb hb s most H wg) : w.cell? ⟨vb, 0, none⟩ = some (.string s) := by rw [h.st.cell]; rfl
theorem VStv.c1 {w : World} {vb hb : Nat} {s : ByteArray} {most : Nat} {H : Nat → Int} {wg : Bool} (h : VStv w vb hb s most H wg) : w.cell? ⟨vb, 1, none⟩ = some (.int .i64 most) := by rw [h.st.cell]; rfl
theorem VStv.c2 {w : World} {vb hb : Nat} {s : ByteArray} {most : Nat} {H : Nat → Int} {wg : Bool} (h : VStv w vb hb s most H wg) : w.cell? ⟨vb, 2, none⟩ = some (.slice (some ⟨hb, 0, none⟩) s.size s.size) := by rw [h.st.cell]; rfl
theorem VStv.c3 {w : World} {vb hb : Nat} {s : ByteArray} {most : Nat} {H : Nat → Int} {wg : Bool} (h : VStv w vb hb s most H wg) : w.cell? ⟨vb, 3, none⟩ = some (.bool wg) := by rw [h.st.cell]; rfl
theorem VStv.cH {w : World} {vb hb : Nat} {s : ByteArray} {most : Nat} {H : Nat → Int} {wg : Bool} (h : VStv w vb hb s most H wg) (q : Nat) (hq : q < s.size) : w.cell? ⟨hb, q, none⟩ = some (.int .i64 (H q)) := by rw [h.ht.cell, arrH_get _ _ _ hq]
theorem VStv.wrong {w : World} {vb hb : Nat} {s : ByteArray} {most : Nat} {H : Nat → Int} {wg : Bool} (h : VStv w vb hb s most H wg) : VStv (w.setCell ⟨vb, 3, none⟩ (.bool true)) vb hb s most H true :=
  ⟨h.st.set 3 (.bool true), h.ht.other _ _ h.ne, h.ne⟩
theorem VStv.put {w : World} {vb hb : Nat} {s : ByteArray} {most : Nat} {H : Nat → Int} {wg : Bool} (h : VStv w vb hb s most H wg) (q : Nat) (a : Int) : VStv (w.setCell ⟨hb, q, none⟩ (.int .i64 a)) vb hb s most (upd H q a) wg :=
  ⟨h.st.other _ _ (Ne.symm h.ne), by have := h.ht.set q (.int .i64 a); rw [arrH_set] at this; exact this, h.ne⟩

set_option maxHeartbeats 1000000 in
theorem heightAt_any {w : World} {vb hb : Nat} {s : ByteArray} {most : Nat} {H : Nat → Int} {wg : Bool} (hs : s.size ≤ 4000) (q : Nat) (hq : q < s.size) (h : VStv w vb hb s most H wg) :
    Calls Tryz.prog 88 #[.pointer (some ⟨vb, 0, none⟩), .int .i64 q] w fun e w' => e = .returned (.int .i64 (H q)) ∧ w' = w := by
  have c2 := h.c2
  have cH := h.cH q hq
  clear h
  go_enter Tryz.func88, Tryz.ntmps88
  go_wp2
  go_ret
  exact ⟨rfl, rfl⟩
/-- What reach does to the heights and to the mark. -/
def reachH (s : ByteArray) (most : Nat) (H : Nat → Int) (q : Nat) (a : Int) : Nat → Int := if s.size ≤ q ∨ (most : Int) < a then H else upd H q a
def reachW (s : ByteArray) (most : Nat) (H : Nat → Int) (wg : Bool) (q : Nat) (a : Int) : Bool := wg || decide (s.size ≤ q ∨ (most : Int) < a ∨ (H q ≠ -1 ∧ H q ≠ a))
set_option maxHeartbeats 1000000 in
theorem reach_any {w : World} {vb hb : Nat} {s : ByteArray} {most : Nat} {H : Nat → Int} {wg : Bool} (hs : s.size ≤ 4000) (B : Nat) (hB : B ≤ vb ∧ B ≤ hb) (q : Nat) (a : Int) (h : VStv w vb hb s most H wg) :
    Calls Tryz.prog 63 #[.pointer (some ⟨vb, 0, none⟩), .int .i64 q, .int .i64 a] w fun e w' => e = .returned (.tuple #[]) ∧ VStv w' vb hb s most (reachH s most H q a) (reachW s most H wg q a) ∧ Below B w w' ∧ w'.heap.size = w.heap.size ∧ ∀ b, b ≠ vb → b ≠ hb → w'.heap[b]? = w.heap[b]? := by
  have c1 := h.c1
  have c2 := h.c2
  have f3 : w.frozen? ⟨vb, 3, none⟩ = false := h.st.free 3
  have c3 := h.c3
  have HV : Hid (VStv w vb hb s most H wg) := h
  clear h
  by_cases hq : s.size ≤ q
  · have HH : Hid (reachH s most H q a = H) := if_pos (.inl hq)
    have HW : Hid (reachW s most H wg q a = true) := (by unfold reachW; simp [hq] : _ = true)
    rw [HH.out, HW.out]
    go_enter Tryz.func63, Tryz.ntmps63
    go_wp2
    refine bodyPost_ret (results_none rfl _ _ _) rfl ?_
    exact ⟨rfl, HV.out.wrong, (Below.refl _ _).setCell (p := ⟨vb, 3, none⟩) hB.1 _, by simp, fun b h1 h2 => Below.heap_setCell _ _ _ _ h1⟩
  have cH := HV.out.cH q (by omega)
  have fH : w.frozen? ⟨hb, q, none⟩ = false := HV.out.ht.free q
  have hne : hb ≠ vb := HV.out.ne
  have hne' : vb ≠ hb := Ne.symm hne
  by_cases hm : (most : Int) < a
  · have HH : Hid (reachH s most H q a = H) := if_pos (.inr hm)
    have HW : Hid (reachW s most H wg q a = true) := (by unfold reachW; simp [hm] : _ = true)
    rw [HH.out, HW.out]
    go_enter Tryz.func63, Tryz.ntmps63
    go_wp2
    refine bodyPost_ret (results_none rfl _ _ _) rfl ?_
    exact ⟨rfl, HV.out.wrong, (Below.refl _ _).setCell (p := ⟨vb, 3, none⟩) hB.1 _, by simp, fun b h1 h2 => Below.heap_setCell _ _ _ _ h1⟩
  have HH : Hid (reachH s most H q a = upd H q a) := if_neg (by omega)
  rw [HH.out]
  by_cases hc : H q ≠ -1 ∧ H q ≠ a
  · have HW : Hid (reachW s most H wg q a = true) := (by unfold reachW; rw [decide_eq_true (.inr (.inr hc))]; simp : _ = true)
    rw [HW.out]
    have d1 : (H q == -1) = false := by simpa using hc.1
    have d2 : (H q == a) = false := by simpa using hc.2
    have d1' : (H q != -1) = true := by simp [bne, d1]
    have d2' : (H q != a) = true := by simp [bne, d2]
    clear hc
    go_enter Tryz.func63, Tryz.ntmps63
    go_wp2
    go_end0
    exact ⟨rfl, HV.out.wrong.put q a, ((Below.refl _ _).setCell (p := ⟨vb, 3, none⟩) hB.1 _).setCell (p := ⟨hb, q, none⟩) hB.2 _, by simp, fun b h1 h2 => (Below.heap_setCell _ _ _ _ h2).trans (Below.heap_setCell _ _ _ _ h1)⟩
  · have HW : Hid (reachW s most H wg q a = wg) := (by unfold reachW; rw [decide_eq_false (by omega)]; simp : _ = wg)
    rw [HW.out]
    by_cases e1 : H q = -1
    · have d1 : (H q == -1) = true := by simpa using e1
      have d1' : (H q != -1) = false := by simp [bne, d1]
      clear hc e1
      go_enter Tryz.func63, Tryz.ntmps63
      go_wp2
      go_end0
      exact ⟨rfl, HV.out.put q a, (Below.refl _ _).setCell (p := ⟨hb, q, none⟩) hB.2 _, by simp, fun b h1 h2 => Below.heap_setCell _ _ _ _ h2⟩
    · have d1 : (H q == -1) = false := by simpa using e1
      have d2 : (H q == a) = true := by simp; omega
      have d1' : (H q != -1) = true := by simp [bne, d1]
      have d2' : (H q != a) = false := by simp [bne, d2]
      clear hc e1
      go_enter Tryz.func63, Tryz.ntmps63
      go_wp2
      go_end0
      exact ⟨rfl, HV.out.put q a, (Below.refl _ _).setCell (p := ⟨hb, q, none⟩) hB.2 _, by simp, fun b h1 h2 => Below.heap_setCell _ _ _ _ h2⟩

/-- Is a byte from one place to ahead of another jumped at? -/
def insideW (H : Nat → Int) (wg : Bool) (f b : Nat) : Bool := wg || decide (∃ i, i < b ∧ f ≤ i ∧ H i ≠ -1)
theorem insideW_nil (H : Nat → Int) (wg : Bool) (f b : Nat) (h : b ≤ f) : insideW H wg f b = wg := by
  unfold insideW
  rw [decide_eq_false (by rintro ⟨i, h1, h2, _⟩; omega)]; simp
theorem insideW_cons (H : Nat → Int) (wg : Bool) (f b : Nat) (h : f < b) : insideW H wg f b = insideW H (wg || decide (H f ≠ -1)) (f + 1) b := by
  unfold insideW
  rw [Bool.eq_iff_iff]
  simp only [Bool.or_eq_true, decide_eq_true_eq]
  constructor
  · rintro (h1 | ⟨i, h1, h2, h3⟩)
    · exact .inl (.inl h1)
    · by_cases he : i = f
      · subst he; exact .inl (.inr h3)
      · exact .inr ⟨i, h1, by omega, h3⟩
  · rintro ((h1 | h1) | ⟨i, h1, h2, h3⟩)
    · exact .inl h1
    · exact .inr ⟨f, h, Nat.le_refl _, h1⟩
    · exact .inr ⟨i, h1, by omega, h3⟩
set_option maxHeartbeats 1000000 in
theorem refuseInside_any {w : World} {vb hb : Nat} {s : ByteArray} {most : Nat} {H : Nat → Int} {wg : Bool} (hs : s.size ≤ 4000) (B : Nat) (hB : B ≤ vb ∧ B ≤ hb) (f b : Nat) (hf : f ≤ b) (hbs : b ≤ s.size) (h : VStv w vb hb s most H wg) :
    Calls Tryz.prog 90 #[.pointer (some ⟨vb, 0, none⟩), .int .i64 f, .int .i64 b] w fun e w' => e = .returned (.tuple #[]) ∧ VStv w' vb hb s most H (insideW H wg f b) ∧ Below B w w' ∧ w'.heap.size = w.heap.size ∧ ∀ b, b ≠ vb → b ≠ hb → w'.heap[b]? = w.heap[b]? := by
  have HV : Hid (VStv w vb hb s most H wg) := h
  clear h
  go_enter Tryz.func90, Tryz.ntmps90
  go_wp2
  go_loopw [6] (fun vi wx => ∃ (i : Nat) (w2 : Bool), i ≤ b ∧ vi = .int .i64 i ∧ VStv wx vb hb s most H w2 ∧ Below B w wx ∧ wx.heap.size = w.heap.size ∧ (∀ b, b ≠ vb → b ≠ hb → wx.heap[b]? = w.heap[b]?) ∧ insideW H wg f b = insideW H w2 i b) (fun i _ => b - (intOf i).toNat)
  case atStart => exact ⟨f, wg, hf, rfl, HV.out, Below.refl _ _, rfl, fun _ _ _ => rfl, rfl⟩
  case round =>
    clear HV
    obtain ⟨i, w2, hib, rfl, hst, hbl, hsz, hot, hin⟩ := hrel
    have HOt : Hid (∀ b, b ≠ vb → b ≠ hb → wr.heap[b]? = w.heap[b]?) := hot
    clear hot
    have HV : Hid (VStv wr vb hb s most H w2) := hst
    have HI : Hid (insideW H wg f b = insideW H w2 i b) := hin
    clear hst hin
    by_cases hi : i < b
    case neg =>
      go_wp2
      go_end0
      have := insideW_nil H w2 i b (by omega)
      rw [HI.out, this]
      exact ⟨rfl, HV.out, hbl, hsz, HOt.out⟩
    have c3 := HV.out.c3
    have f3 : wr.frozen? ⟨vb, 3, none⟩ = false := HV.out.st.free 3
    have HC : Hid (insideW H wg f b = insideW H (w2 || decide (H i ≠ -1)) (i + 1) b) := (by rw [HI.out, insideW_cons H w2 i b hi] : _ = _)
    by_cases e1 : H i = -1
    · have d1 : (H i == -1) = true := by simpa using e1
      have d1' : (H i != -1) = false := by simp [bne, d1]
      have HE : Hid (decide (H i ≠ -1) = false) := (by simp [e1] : _ = false)
      clear e1
      go_wp2_with (go_at_call 88; refine (heightAt_any hs i (by omega) HV.out).mono ?_; rintro e w' ⟨rfl, rfl⟩)
      go_roundw
      case rel => exact ⟨i + 1, w2, by omega, by go_num, HV.out, hbl, hsz, HOt.out, by rw [HC.out, HE.out]; simp⟩
      case measure => simp [intOf]; omega
    · have d1 : (H i == -1) = false := by simpa using e1
      have d1' : (H i != -1) = true := by simp [bne, d1]
      have HE : Hid (decide (H i ≠ -1) = true) := (by simp [e1] : _ = true)
      clear e1
      go_wp2_with (go_at_call 88; refine (heightAt_any hs i (by omega) HV.out).mono ?_; rintro e w' ⟨rfl, rfl⟩)
      go_roundw
      case rel => exact ⟨i + 1, true, by omega, by go_num, HV.out.wrong, hbl.setCell (p := ⟨vb, 3, none⟩) hB.1 _, by simp [hsz], fun b h1 h2 => (Below.heap_setCell _ _ _ _ h1).trans (HOt.out b h1 h2), by rw [HC.out, HE.out]; simp⟩
      case measure => simp [intOf]; omega
end Go.Proofs.YtnnbhebklnappaaGreatDoor
