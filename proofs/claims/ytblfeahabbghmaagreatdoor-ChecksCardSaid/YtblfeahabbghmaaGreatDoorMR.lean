/-
  What the document's small functions on operations do, called in any world: behindOp, takes, lays, low, index.
  What the program's small functions on operations do: hasHead, lowestFirst, At, Takes, Lays, Ends, Jumps, Target.
  A script in memory; each of its steps held against the document: each answers true, where every step of that kind does.
  The program's tables, out of what its text lays: each cell of them.
  A script that reads as data: its cells.
  The program's words and signs, out of what its text lays.
-/
import Derived.Test.YtblfeahabbghmaaGreatDoorProg
import Derived.Test.YtblfeahabbghmaaGreatDoorMA
import Derived.Test.YtblfeahabbghmaaGreatDoorMQ
import Derived.WalkLawsBesides
import Derived.Deep.QuietTactic
import Derived.BigQuiet
import Derived.Deep.Light
import Derived.Laws.BitsAllLaws
import Derived.Test.YtblfeahabbghmaaGreatDoorRows
import Derived.ProofKit
import Derived.LaidMore
import Derived.OpenShut
import Derived.Stop.Joined
import Derived.Test.YtblfeahabbghmaaGreatDoorMC
set_option linter.unusedVariables false
set_option linter.unusedSimpArgs false
namespace Go.Proofs.YtblfeahabbghmaaGreatDoor
open Go.RowKit

set_option maxHeartbeats 400000 in
theorem behindOp_any (c : Nat) (w : World) :
    Calls Tryz.prog 159 #[.int .i64 c] w fun e w' => e = .returned (.int .i64 (behindN c)) ∧ w' = w := by
  go_enter Tryz.func159, Tryz.ntmps159
  go_wp2
  all_goals go_ret
  all_goals exact ⟨ret_int (by go_light; simp at *; unfold behindN; (repeat' split) <;> omega), rfl⟩
set_option maxHeartbeats 400000 in
theorem takes_any (c : Nat) (w : World) :
    Calls Tryz.prog 113 #[.int .i64 c] w fun e w' => e = .returned (.int .i64 (takesN c)) ∧ w' = w := by
  go_enter Tryz.func113, Tryz.ntmps113
  go_wp2
  all_goals go_ret
  all_goals exact ⟨ret_int (by go_light; simp at *; unfold takesN; (repeat' split) <;> omega), rfl⟩
set_option maxHeartbeats 400000 in
theorem lays_any (c : Nat) (w : World) :
    Calls Tryz.prog 119 #[.int .i64 c] w fun e w' => e = .returned (.int .i64 (laysN c)) ∧ w' = w := by
  go_enter Tryz.func119, Tryz.ntmps119
  go_wp2
  all_goals go_ret
  all_goals exact ⟨ret_int (by go_light; unfold laysN; (repeat' split) <;> omega), rfl⟩

theorem wrap_low (L b : Nat) (h : b < 256) : wrap64 (wrap64 (wrap64 (L : Nat) * 256) + wrap64 (b : Nat)) = IntKind.i64.wrap ((b + 256 * L : Nat) : Int) := by
  simp only [IntKind.wrap_i64, wrap64]; omega
theorem lowU_step (s : ByteArray) (p j n : Nat) (hj : 0 < j) (hn : j ≤ n) : lowU s (p + (j - 1)) (n - (j - 1)) = bt s (p + (j - 1)) + 256 * lowU s (p + j) (n - j) := by
  have e : n - (j - 1) = (n - j) + 1 := by omega
  rw [e]
  simp only [lowU]
  rw [show p + (j - 1) + 1 = p + j by omega]

def cellV (o : Ins) : List Value := [.int .i64 o.pos, .int .i64 o.op, .int .i64 o.arg, .int .i64 o.next]
def cellsV (l : List Ins) : List Value := l.flatMap cellV
theorem cellsN_length (l : List Ins) : (cellsV l).length = l.length * 4 := by
  induction l with
  | nil => rfl
  | cons a r ih => simp only [cellsV, List.flatMap_cons, List.length_append, List.length_cons] at ih ⊢; rw [ih]; simp [cellV]; omega
theorem cellsV_snoc (l : List Ins) (t : Ins) : cellsV (l ++ [t]) = cellsV l ++ cellV t := by simp [cellsV]
theorem cellsN_get : ∀ (l : List Ins) (i : Nat) (h : i < l.length), (cellsV l)[i * 4]? = some (.int .i64 (nth l i).pos) ∧ (cellsV l)[i * 4 + 1]? = some (.int .i64 (nth l i).op) ∧ (cellsV l)[i * 4 + 2]? = some (.int .i64 (nth l i).arg) ∧ (cellsV l)[i * 4 + 3]? = some (.int .i64 (nth l i).next)
  | a :: r, 0, _ => by simp [cellsV, cellV, nth]
  | a :: r, i + 1, h => by
    have ih := cellsN_get r i (by simpa using h)
    have hn : nth (a :: r) (i + 1) = nth r i := by simp [nth]
    rw [hn]
    have e : cellsV (a :: r) = cellV a ++ cellsV r := by simp [cellsV]
    have hl : (cellV a).length = 4 := rfl
    rw [e]
    refine ⟨?_, ?_, ?_, ?_⟩
    · rw [List.getElem?_append_right (by rw [hl]; omega), hl, show (i + 1) * 4 - 4 = i * 4 by omega]; exact ih.1
    · rw [List.getElem?_append_right (by rw [hl]; omega), hl, show (i + 1) * 4 + 1 - 4 = i * 4 + 1 by omega]; exact ih.2.1
    · rw [List.getElem?_append_right (by rw [hl]; omega), hl, show (i + 1) * 4 + 2 - 4 = i * 4 + 2 by omega]; exact ih.2.2.1
    · rw [List.getElem?_append_right (by rw [hl]; omega), hl, show (i + 1) * 4 + 3 - 4 = i * 4 + 3 by omega]; exact ih.2.2.2

set_option maxHeartbeats 1000000 in
theorem low_any (s : ByteArray) (p n : Nat) (hs : s.size ≤ 4000) (hn : p + n ≤ s.size) (w : World) :
    Calls Tryz.prog 160 #[.string s, .int .i64 p, .int .i64 n] w fun e w' => e = .returned (.int .i64 (IntKind.i64.wrap (lowU s p n : Nat))) ∧ w' = w := by
  go_enter Tryz.func160, Tryz.ntmps160
  go_wp2
  go_loop [7, 8] (fun v i => ∃ j : Nat, j ≤ n ∧ i = .int .i64 ((j : Int) - 1) ∧ v = .int .i64 (IntKind.i64.wrap (lowU s (p + j) (n - j) : Nat))) (fun _ i => (intOf i + 1).toNat)
  case atStart => exact ⟨n, Nat.le_refl _, by go_num, by simp [lowU]; rfl⟩
  case round =>
    obtain ⟨j, hj, rfl, rfl⟩ := hrel
    by_cases h0 : 0 < j
    · have hb : p + (j - 1) < s.size := by omega
      have hbt : (s[p + (j - 1)]'hb).toNat = bt s (p + (j - 1)) := (bt_get s _ hb).symm
      have hix := fun wx => run_index_nat (P := Tryz.prog) wx 9 s .i64 (IntKind.i64.wrap ((p : Int) + ((j : Int) - 1))) (p + (j - 1)) Tryz.underlying9 (by rw [IntWalk.i64_in _ ⟨by omega, by omega⟩]; omega) hb
      go_wp2
      go_round
      case rel => exact ⟨j - 1, by omega, by go_num, by
          rw [lowU_step s p j n h0 hj]
          exact congrArg (Value.int .i64) (wrap_low _ _ (bt_lt s (p + (j - 1))))⟩
      case measure => simp [intOf]; omega
    · go_wp2
      go_ret
      have : j = 0 := by omega
      subst this
      exact ⟨ret_int (by simp), rfl⟩

/-- Which operation begins at that place: its number, or -1. -/
def IsIndex (l : List Ins) (a : Int) (r : Int) : Prop := (r = -1 ∧ ∀ k, k < l.length → ((nth l k).pos : Int) ≠ a) ∨ ∃ k : Nat, k < l.length ∧ r = k ∧ ((nth l k).pos : Int) = a
set_option maxHeartbeats 1000000 in
theorem index_any (l : List Ins) (hl : l.length ≤ 4000) (a : Int) (v : Value) (w : World) (hv : Reads w v l.length (cellsV l)) :
    Calls Tryz.prog 117 #[v, .int .i64 a] w fun e w' => ∃ r, e = .returned (.int .i64 r) ∧ IsIndex l a r ∧ w' = w := by
  rcases hv with ⟨rfl, hn, _⟩ | ⟨g, o, cap, rfl, _, hlt, hc⟩
  · have : l = [] := List.eq_nil_of_length_eq_zero hn
    subst this
    go_enter Tryz.func117, Tryz.ntmps117
    go_wp2
    refine wp_loop_rounds 1 ?_; rw [rounds_succ]
    go_wp2
    go_ret
    exact ⟨-1, rfl, .inl ⟨rfl, by simp⟩, rfl⟩
  go_enter Tryz.func117, Tryz.ntmps117
  go_wp2
  go_loop [5] (fun i => ∃ k : Nat, k ≤ l.length ∧ i = .int .i64 k ∧ ∀ j, j < k → ((nth l j).pos : Int) ≠ a) (fun i => l.length - (intOf i).toNat)
  case atStart => exact ⟨0, Nat.zero_le _, rfl, by intro j hj; omega⟩
  case round =>
    obtain ⟨k, hk, rfl, hno⟩ := hrel
    have HN : Hid (∀ j, j < k → ((nth l j).pos : Int) ≠ a) := hno
    have HC : Hid (∀ j u, (cellsV l)[j]? = some u → w.cell? ⟨g, o + j, none⟩ = some u) := hc
    clear hno hc
    by_cases hkl : k < l.length
    · have cx : w.cell? ⟨g, o + k * 4, none⟩ = some (.int .i64 (nth l k).pos) := HC.out _ _ (cellsN_get l k hkl).1
      by_cases he : ((nth l k).pos : Int) = a
      · have HE : Hid (((nth l k).pos : Int) = a) := he
        have hb : (((nth l k).pos : Int) == a) = true := by simpa using he
        clear he
        go_wp2
        go_ret
        exact ⟨k, rfl, .inr ⟨k, hkl, rfl, HE.out⟩, rfl⟩
      · have HE : Hid (((nth l k).pos : Int) ≠ a) := he
        have hb : (((nth l k).pos : Int) == a) = false := by simpa using he
        clear he
        go_wp2
        go_round
        case rel => exact ⟨k + 1, by omega, by go_num, fun j hj => by
          by_cases h : j = k
          · subst h; exact HE.out
          · exact HN.out j (by omega)⟩
        case measure => simp [intOf]; omega
    · go_wp2
      go_ret
      exact ⟨-1, rfl, .inl ⟨rfl, fun j hj => HN.out j (by omega)⟩, rfl⟩
end Go.Proofs.YtblfeahabbghmaaGreatDoor

set_option linter.unusedVariables false
set_option linter.unusedSimpArgs false
namespace Go.Proofs.YtblfeahabbghmaaGreatDoor
open Go.RowKit

/-- The program's three tables lie in memory as its text lays them. -/
structure GlobP (w : World) : Prop where
  bytes : ∀ c, c < 18 → w.cell? ⟨0, c, none⟩ = some (.int .i64 (behindN c))
  takes : ∀ c, c < 18 → w.cell? ⟨1, c, none⟩ = some (.int .i64 (takesN c))
  lays : ∀ c, c < 18 → w.cell? ⟨2, c, none⟩ = some (.int .i64 (laysN c))
  size : 0 < w.heap.size ∧ 1 < w.heap.size ∧ 2 < w.heap.size
theorem GlobP.below {w w' : World} (h : GlobP w) (hb : Below w.heap.size w w') : GlobP w' :=
  ⟨fun c hc => (hb.cell (p := ⟨0, c, none⟩) h.size.1).trans (h.bytes c hc), fun c hc => (hb.cell (p := ⟨1, c, none⟩) h.size.2.1).trans (h.takes c hc), fun c hc => (hb.cell (p := ⟨2, c, none⟩) h.size.2.2).trans (h.lays c hc), ⟨Nat.lt_of_lt_of_le h.size.1 hb.size, Nat.lt_of_lt_of_le h.size.2.1 hb.size, Nat.lt_of_lt_of_le h.size.2.2 hb.size⟩⟩

def headB (s : ByteArray) : Bool := decide (4 ≤ s.size) && decide (s.size ≤ 4000) && decide (bt s 0 = 83) && decide (bt s 1 = 76)
theorem headB_iff (s : ByteArray) : headB s = true ↔ HeadOk s := by
  unfold headB HeadOk
  simp only [Bool.and_eq_true, decide_eq_true_eq, and_assoc]
theorem headB_false {s : ByteArray} (h : ¬ HeadOk s) : headB s = false := by
  cases hb : headB s
  · rfl
  · exact absurd ((headB_iff s).1 hb) h
set_option maxHeartbeats 400000 in
theorem hasHead_any (s : ByteArray) (w : World) :
    Calls Tryz.prog 47 #[.string s] w fun e w' => e = .returned (.bool (headB s)) ∧ w' = w := by
  by_cases h1 : s.size ≤ 3
  · go_enter Tryz.func47, Tryz.ntmps47
    go_wp2
    go_ret
    exact ⟨ret_bool (by symm; apply headB_false; intro h; have := h.1; omega), rfl⟩
  by_cases h2 : 4000 < s.size
  · go_enter Tryz.func47, Tryz.ntmps47
    go_wp2
    go_ret
    exact ⟨ret_bool (by symm; apply headB_false; intro h; have := h.2.1; omega), rfl⟩
  have hi0 := fun wx => run_index_nat (P := Tryz.prog) wx 9 s .i64 0 0 Tryz.underlying9 rfl (by omega)
  have hi1 := fun wx => run_index_nat (P := Tryz.prog) wx 9 s .i64 1 1 Tryz.underlying9 rfl (by omega)
  have HB0 : Hid (bt s 0 = s[0].toNat) := bt_get s 0 (by omega)
  have HB1 : Hid (bt s 1 = s[1].toNat) := bt_get s 1 (by omega)
  obtain ⟨c0, hc0⟩ : ∃ c, c = (s[0]'(by omega)).toNat := ⟨_, rfl⟩
  obtain ⟨c1, hc1⟩ : ∃ c, c = (s[1]'(by omega)).toNat := ⟨_, rfl⟩
  rw [← hc0] at hi0 HB0
  rw [← hc1] at hi1 HB1
  clear hc0 hc1
  have HD : Hid (headB s = (((c0 : Int) == 83) && ((c1 : Int) == 76))) := (by
    rw [Bool.eq_iff_iff, headB_iff]
    unfold HeadOk
    rw [HB0.out, HB1.out]
    simp
    omega : headB s = (((c0 : Int) == 83) && ((c1 : Int) == 76)))
  cases h3 : ((c0 : Int) == 83)
  all_goals
    go_enter Tryz.func47, Tryz.ntmps47
    go_wp2
    go_ret
    exact ⟨ret_bool (by rw [HD.out]; simp [h3]), rfl⟩

theorem bt_ext (s : ByteArray) (a b i : Nat) (h : i < (s.extract a b).size) : bt (s.extract a b) i = bt s (a + i) := by
  have h2 : a + i < s.size := by rw [ByteArray.size_extract] at h; omega
  rw [bt_get _ _ h, bt_get _ _ h2]
  congr 1
  have h3 := getElem_toList (s.extract a b) i h
  have h4 := getElem_toList s (a + i) h2
  have e : (s.extract a b).toList = (s.toList.drop a).take (b - a) := by rw [extract_bsOf, bsOf_toList]
  rw [ByteArray.size_extract] at h
  rw [e, List.getElem?_take, if_pos (by omega), List.getElem?_drop, h4] at h3
  exact (Option.some.inj h3).symm
theorem lowU_ext (s : ByteArray) (a b : Nat) : ∀ (n k : Nat), k + n ≤ (s.extract a b).size → lowU (s.extract a b) k n = lowU s (a + k) n
  | 0, _, _ => rfl
  | n + 1, k, h => by
    simp only [lowU]
    rw [bt_ext s a b k (by omega), lowU_ext s a b n (k + 1) (by omega), Nat.add_assoc]
theorem lowU_lt (s : ByteArray) : ∀ (n k : Nat), lowU s k n < 256 ^ n
  | 0, _ => by simp [lowU]
  | n + 1, k => by
    have h1 := lowU_lt s n (k + 1)
    have h2 := bt_lt s k
    simp only [lowU, Nat.pow_succ]
    omega
theorem or_low (L b : Nat) (hL : L < 72057594037927936) (hb : b < 256) : bits .or .u64 (IntKind.u64.wrap ((L : Int) * 256)) (IntKind.u64.wrap (b : Nat)) = ((b + 256 * L : Nat) : Int) := by
  rw [IntWalk.u64_in _ ⟨by omega, by omega⟩, IntWalk.u64_in _ ⟨by omega, by omega⟩]
  have e : (L : Int) * 256 = ((L * 256 : Nat) : Int) := by omega
  rw [e, u64_or_nat _ _ (by omega) (by omega)]
  have h := Nat.shiftLeft_add_eq_or_of_lt (i := 8) (b := b) (by omega) L
  rw [Nat.shiftLeft_eq] at h
  rw [← h]
  omega
set_option maxHeartbeats 1000000 in
theorem lowestFirst_any (t : ByteArray) (ht : t.size ≤ 8) (w : World) :
    Calls Tryz.prog 88 #[.string t] w fun e w' => e = .returned (.int .i64 (IntKind.i64.wrap (lowU t 0 t.size : Nat))) ∧ w' = w := by
  go_enter Tryz.func88, Tryz.ntmps88
  go_wp2
  go_loop [3, 4] (fun v i => ∃ j : Nat, j ≤ t.size ∧ i = .int .i64 ((j : Int) - 1) ∧ v = .int .u64 (lowU t j (t.size - j) : Nat)) (fun _ i => (intOf i + 1).toNat)
  case atStart => exact ⟨t.size, Nat.le_refl _, by go_num, by simp [lowU]⟩
  case round =>
    obtain ⟨j, hj, rfl, rfl⟩ := hrel
    by_cases h0 : 0 < j
    · have hb : j - 1 < t.size := by omega
      have hbt : (t[j - 1]'hb).toNat = bt t (j - 1) := (bt_get t _ hb).symm
      have hix := fun wx => run_index_nat (P := Tryz.prog) wx 9 t .i64 ((j : Int) - 1) (j - 1) Tryz.underlying9 (by omega) hb
      go_wp2
      go_round
      case rel => exact ⟨j - 1, by omega, by go_num, by
          have hL := lowU_lt t (t.size - j) j
          have h7 : 256 ^ (t.size - j) ≤ 256 ^ 7 := Nat.pow_le_pow_right (by omega) (by omega)
          have e := lowU_step t 0 j t.size h0 hj
          simp only [Nat.zero_add] at e
          rw [e, or_low _ _ (by omega) (bt_lt t (j - 1))]⟩
      case measure => simp [intOf]; omega
    · go_wp2
      go_ret
      have : j = 0 := by omega
      subst this
      exact ⟨ret_int (by rw [IntWalk.i64_left]; simp), rfl⟩
end Go.Proofs.YtblfeahabbghmaaGreatDoor

set_option linter.unusedVariables false
set_option linter.unusedSimpArgs false
namespace Go.Proofs.YtblfeahabbghmaaGreatDoor
open Go.RowKit

/-- One step of a script. -/
structure Opr where
  kind : Int
  at' : Int
  a : Int
  b : Int
  s : ByteArray
  x : Itm
  y : Bn
def itmV (x : Itm) : Value := .agg #[.int .i64 x.size, .int .i64 x.speed, .int .i64 x.need]
def bnV (y : Bn) : Value := .agg #[.int .i64 y.id, .int .i64 y.zone, .int .i64 y.cap, .int .i64 y.used, .int .i64 y.has]
def oprV (o : Opr) : Value := .agg #[.int .i64 o.kind, .int .i64 o.at', .int .i64 o.a, .int .i64 o.b, .string o.s, .int .i64 o.x.size, .int .i64 o.x.speed, .int .i64 o.x.need, .int .i64 o.y.id, .int .i64 o.y.zone, .int .i64 o.y.cap, .int .i64 o.y.used, .int .i64 o.y.has]
def oprCells (o : Opr) : List Value := [.int .i64 o.kind, .int .i64 o.at', .int .i64 o.a, .int .i64 o.b, .string o.s, .int .i64 o.x.size, .int .i64 o.x.speed, .int .i64 o.x.need, .int .i64 o.y.id, .int .i64 o.y.zone, .int .i64 o.y.cap, .int .i64 o.y.used, .int .i64 o.y.has]
/-- What is asked of the steps' texts. -/
def Opr.Fit (o : Opr) : Prop := o.s.size ≤ maxLen
/-- A script in memory. -/
def Script (w : World) (v : Value) (n : Nat) (os : Nat → Opr) : Prop :=
  ((∃ a c, v = .slice a 0 c) ∧ n = 0) ∨ ∃ b off cap, v = .slice (some ⟨b, off, none⟩) n cap ∧ b < w.heap.size ∧ ∀ i, i < n → (os i).Fit ∧ ∀ j u, (oprCells (os i))[j]? = some u → w.cell? ⟨b, off + i * 13 + j, none⟩ = some u

set_option maxHeartbeats 1000000 in
set_option maxRecDepth 10000 in
theorem each_any (G : World → Prop) (hG : ∀ w w', G w → Below w.heap.size w w' → G w') (K : Int) (n : Nat) (hn : n ≤ maxLen) (v : Value) (os : Nat → Opr) (w : World) (hs : Script w v n os) (hg : G w)
    (hal : ∀ o : Opr, o.Fit → o.kind = K → ∀ w, G w → Calls Tryz.prog 18 #[oprV o] w fun e w' => Below w.heap.size w w' ∧ e = .returned (.bool true)) :
    Calls Tryz.prog 10 #[v, .int .i64 K] w fun e w' => Below w.heap.size w w' ∧ e = .returned (.bool true) := by
  have hn' : (n : Int) ≤ 9223372036854775807 := by have h := hn; simp [maxLen] at h; omega
  rcases hs with ⟨⟨a0, c0, rfl⟩, rfl⟩ | ⟨b, off, cap, rfl, hlt, hc⟩
  · go_enter Tryz.func10, Tryz.ntmps10
    go_wp2
    refine wp_loop_rounds 1 ?_; rw [rounds_succ]
    go_wp2
    go_ret
    exact ⟨Below.refl _ _, rfl⟩
  have HC : Hid (∀ i, i < n → (os i).Fit ∧ ∀ j u, (oprCells (os i))[j]? = some u → w.cell? ⟨b, off + i * 13 + j, none⟩ = some u) := hc
  have HG : Hid (G w) := hg
  have HA : Hid (∀ o : Opr, o.Fit → o.kind = K → ∀ w, G w → Calls Tryz.prog 18 #[oprV o] w fun e w' => Below w.heap.size w w' ∧ e = .returned (.bool true)) := hal
  clear hc hg hal hn
  go_enter Tryz.func10, Tryz.ntmps10
  go_wp2
  go_loopw [5] (fun vi wx => ∃ i : Nat, i ≤ n ∧ vi = .int .i64 i ∧ Below w.heap.size w wx) (fun i _ => n - (intOf i).toNat)
  case atStart => exact ⟨0, Nat.zero_le _, rfl, Below.refl _ _⟩
  case round =>
    obtain ⟨i, hil, rfl, hbl⟩ := hrel
    by_cases hi : i < n
    case neg =>
      go_wp2
      go_ret
      exact ⟨hbl, rfl⟩
    obtain ⟨hfit, hcell⟩ := HC.out i hi
    have hx : ∀ j u, (oprCells (os i))[j]? = some u → wr.cell? ⟨b, off + i * 13 + j, none⟩ = some u := fun j u h => (hbl.cell (p := ⟨b, off + i * 13 + j, none⟩) hlt).trans (hcell j u h)
    obtain ⟨o, ho⟩ : ∃ o, o = os i := ⟨_, rfl⟩
    rw [← ho] at hx hfit
    have HF : Hid o.Fit := hfit
    have c0 : wr.cell? ⟨b, off + i * 13, none⟩ = some (.int .i64 o.kind) := hx 0 _ rfl
    have c1 : wr.cell? ⟨b, off + i * 13 + 1, none⟩ = some (.int .i64 o.at') := hx 1 _ rfl
    have c2 : wr.cell? ⟨b, off + i * 13 + 2, none⟩ = some (.int .i64 o.a) := hx 2 _ rfl
    have c3 : wr.cell? ⟨b, off + i * 13 + 3, none⟩ = some (.int .i64 o.b) := hx 3 _ rfl
    have c4 : wr.cell? ⟨b, off + i * 13 + 4, none⟩ = some (.string o.s) := hx 4 _ rfl
    have c5 : wr.cell? ⟨b, off + i * 13 + 5, none⟩ = some (.int .i64 o.x.size) := hx 5 _ rfl
    have c6 : wr.cell? ⟨b, off + i * 13 + 6, none⟩ = some (.int .i64 o.x.speed) := hx 6 _ rfl
    have c7 : wr.cell? ⟨b, off + i * 13 + 7, none⟩ = some (.int .i64 o.x.need) := hx 7 _ rfl
    have c8 : wr.cell? ⟨b, off + i * 13 + 8, none⟩ = some (.int .i64 o.y.id) := hx 8 _ rfl
    have c9 : wr.cell? ⟨b, off + i * 13 + 9, none⟩ = some (.int .i64 o.y.zone) := hx 9 _ rfl
    have c10 : wr.cell? ⟨b, off + i * 13 + 10, none⟩ = some (.int .i64 o.y.cap) := hx 10 _ rfl
    have c11 : wr.cell? ⟨b, off + i * 13 + 11, none⟩ = some (.int .i64 o.y.used) := hx 11 _ rfl
    have c12 : wr.cell? ⟨b, off + i * 13 + 12, none⟩ = some (.int .i64 o.y.has) := hx 12 _ rfl
    clear hx hcell ho hfit
    by_cases hk : o.kind = K
    · have HK : Hid (o.kind = K) := hk
      have hkb : (o.kind == K) = true := by simpa using hk
      clear hk
      go_wp2_with (go_at_call 18; refine (HA.out o HF.out HK.out _ (hG _ _ HG.out hbl)).mono ?_; rintro e w1 ⟨hb1, rfl⟩)
      go_roundw
      case rel => exact ⟨i + 1, by omega, by go_num, hbl.trans (hb1.mono hbl.size)⟩
      case measure => simp [intOf]; omega
    · have hkb : (o.kind == K) = false := by simpa using hk
      clear hk
      go_wp2
      go_roundw
      case rel => exact ⟨i + 1, by omega, by go_num, hbl⟩
      case measure => simp [intOf]; omega
end Go.Proofs.YtblfeahabbghmaaGreatDoor

set_option linter.unusedVariables false
set_option linter.unusedSimpArgs false
namespace Go.Proofs.YtblfeahabbghmaaGreatDoor
open Go.RowKit Go.ChangeShapes Go.WideShapes Go.ChangeAt

/-- A row of numbers that reads so: its cells. -/
theorem ints_of_trod {H : Type} {enc : TypeId × Value → H} {P : Program} {W : World} {sp : Nat → Bool} {hd : Bool} {t e : TypeId} {m fuel : Nat} {cs : List Value} {zs : List Int} {q : List MemPlace} (ht : P.underlying t = some (.array m e)) (he : P.underlying e = some (.int .i64)) (hc : P.cellsOf e = 1)
    (hd' : DataW.trod enc P W 0 sp hd fuel t cs = some (.agg (zs.map fun z => .lit (.int .i64 z)), q)) : ∀ (i : Nat) (z : Int), zs[i]? = some z → cs[i]? = some (Value.int .i64 z) := by
  obtain ⟨xs, m1, rfl, hx, hlen, hxm, hel⟩ := DataW.trod_array ht hd'
  intro i z hz
  simp only [Prod.mk.injEq, DataW.agg.injEq] at hx
  have hl : zs.length = xs.length := by have := congrArg List.length hx.1; simpa using this
  have hi : i < zs.length := (List.getElem?_eq_some_iff.1 hz).1
  have h1 := hel i (by omega)
  rw [hc, List.getElem?_eq_getElem (by omega : i < xs.length)] at h1
  obtain ⟨k, e1, e2, _⟩ := DataW.trod_int he h1
  have h2 : (zs.map fun z => (DataW.lit (.int .i64 z) : DataW H))[i]? = (xs.map (·.1))[i]? := by rw [hx.1]
  rw [List.getElem?_map, List.getElem?_map, hz, List.getElem?_eq_getElem (by omega : i < xs.length), Option.map_some, Option.map_some, e2] at h2
  have hk : k = z := by simpa using h2.symm
  subst hk
  have h3 : ((cs.drop (i * 1)).take 1)[0]? = some (.int .i64 k) := by rw [e1]; rfl
  rw [List.getElem?_take, if_pos (by omega), List.getElem?_drop] at h3
  simpa using h3

def tabBytes : List Int := [8, 1, 0, 0, 0, 0, 0, 0, 0, 0, 0, 0, 0, 2, 2, 2, 0, 0]
def tabTakes : List Int := [0, 0, 1, 1, 2, 2, 2, 2, 2, 2, 2, 2, 2, 0, 1, 1, 1, 0]
def tabLays : List Int := [1, 1, 1, 1, 1, 1, 1, 1, 1, 1, 1, 1, 1, 0, 0, 0, 0, 0]
theorem tabBytes_eq : ∀ c, c < 18 → tabBytes[c]? = some ((behindN c : Nat) : Int) := by decide
theorem tabTakes_eq : ∀ c, c < 18 → tabTakes[c]? = some ((takesN c : Nat) : Int) := by decide
theorem tabLays_eq : ∀ c, c < 18 → tabLays[c]? = some ((laysN c : Nat) : Int) := by decide
theorem dBytes : (Rows.laid_slots_program_bytesBehind : DataW Unit) = .agg (tabBytes.map fun z => .lit (.int .i64 z)) := rfl
theorem dTakes : (Rows.laid_slots_program_takes : DataW Unit) = .agg (tabTakes.map fun z => .lit (.int .i64 z)) := rfl
theorem dLays : (Rows.laid_slots_program_lays : DataW Unit) = .agg (tabLays.map fun z => .lit (.int .i64 z)) := rfl
/-- The name of a listed variable. -/
def laidName (i : Nat) : String := ((Rows.verifiesRow.laid[i]?).map (·.1)).getD default
theorem gBytes : Tryz.prog.globalNamed (laidName 3) = some 0 := by kernel_rfl
theorem gTakes : Tryz.prog.globalNamed (laidName 4) = some 1 := by kernel_rfl
theorem gLays : Tryz.prog.globalNamed (laidName 5) = some 2 := by kernel_rfl
theorem tyBytes : (Tryz.prog.globals[0]?).map (·.type) = some 153 := by kernel_rfl
theorem tyTakes : (Tryz.prog.globals[1]?).map (·.type) = some 153 := by kernel_rfl
theorem tyLays : (Tryz.prog.globals[2]?).map (·.type) = some 153 := by kernel_rfl
theorem cellsInt : Tryz.prog.cellsOf 3 = 1 := by kernel_rfl
/-- One table of eighteen numbers. -/
theorem table_of {W : World} {nm : String} {g t : Nat} {cs : Array Value} {fuel : Nat} {p : List MemPlace} {zs : List Int} {d : DataW Unit} (k : Nat) (hgk : Tryz.prog.globalNamed nm = some k) (htk : (Tryz.prog.globals[k]?).map (·.type) = some 153) (hd0 : d = .agg (zs.map fun z => .lit (.int .i64 z)))
    (hg : Tryz.prog.globalNamed nm = some g) (ht : (Tryz.prog.globals[g]?).map (·.type) = some t) (hv : W.var? Tryz.prog nm = some cs) (hd : DataW.trod (fun _ => ()) Tryz.prog W 0 (fun _ => true) false fuel t cs.toList = some (d, p)) :
    ∀ (i : Nat) (z : Int), zs[i]? = some z → W.cell? ⟨k, i, none⟩ = some (.int .i64 z) := by
  obtain rfl := Option.some.inj (hgk.symm.trans hg)
  obtain rfl := Option.some.inj (htk.symm.trans ht)
  subst hd0
  intro i z hz
  have h1 := ints_of_trod Tryz.underlying153 Tryz.underlying3 cellsInt hd i z hz
  rw [World.var?_cell hgk hv i]
  simpa using h1
end Go.Proofs.YtblfeahabbghmaaGreatDoor

set_option linter.unusedVariables false
set_option linter.unusedSimpArgs false
namespace Go.Proofs.YtblfeahabbghmaaGreatDoor
open Go.RowKit Go.ChangeShapes Go.WideShapes Go.ChangeAt

theorem cellsStr : Tryz.prog.cellsOf 9 = 1 := by kernel_rfl
theorem cellsItem : Tryz.prog.cellsOf 26 = 3 := by kernel_rfl
theorem cellsBin : Tryz.prog.cellsOf 28 = 5 := by kernel_rfl
theorem cellsOpr : Tryz.prog.cellsOf 46 = 13 := by kernel_rfl
section
variable {H : Type} {enc : TypeId × Value → H} {W : World} {b : Nat} {sp : Nat → Bool} {hd : Bool}
theorem int_at {n k o : Nat} {cs : List Value} {y : DataW H × List MemPlace} (h : DataW.trod enc Tryz.prog W b sp hd n 3 ((cs.drop o).take k) = some y) (hk : k = 1) : ∃ z, cs[o]? = some (Value.int .i64 z) := by
  subst hk
  obtain ⟨z, e1, _, _⟩ := DataW.trod_int Tryz.underlying3 h
  refine ⟨z, ?_⟩
  have h3 : ((cs.drop o).take 1)[0]? = some (Value.int .i64 z) := by rw [e1]; rfl
  rw [List.getElem?_take, if_pos (by omega), List.getElem?_drop] at h3
  simpa using h3
theorem str_at {n k o : Nat} {cs : List Value} {y : DataW H × List MemPlace} (h : DataW.trod enc Tryz.prog W b sp hd n 9 ((cs.drop o).take k) = some y) (hk : k = 1) : ∃ s : ByteArray, cs[o]? = some (Value.string s) ∧ s.size ≤ maxLen := by
  subst hk
  obtain ⟨s, e1, e2, hs⟩ := DataW.trod_string Tryz.underlying9 h
  refine ⟨s, ?_, hs⟩
  have h3 : ((cs.drop o).take 1)[0]? = some (Value.string s) := by rw [e1]; rfl
  rw [List.getElem?_take, if_pos (by omega), List.getElem?_drop] at h3
  simpa using h3
theorem sub_get {cs : List Value} {o k j : Nat} {v : Value} (h : ((cs.drop o).take k)[j]? = some v) : cs[o + j]? = some v := by
  rw [List.getElem?_take] at h
  split at h
  · rw [List.getElem?_drop] at h; exact h
  · cases h
theorem item_at {n k o : Nat} {cs : List Value} {y : DataW H × List MemPlace} (h : DataW.trod enc Tryz.prog W b sp hd n 26 ((cs.drop o).take k) = some y) :
    ∃ x : Itm, cs[o]? = some (Value.int .i64 x.size) ∧ cs[o + 1]? = some (Value.int .i64 x.speed) ∧ cs[o + 2]? = some (Value.int .i64 x.need) := by
  obtain ⟨xs, m, rfl, _, hl, hxl, hel⟩ := DataW.trod_struct Tryz.underlying26 h
  have hx : ∀ i, i < xs.length → ∃ z, xs[i]? = some z := fun i hi => ⟨_, List.getElem?_eq_getElem hi⟩
  simp only [List.size_toArray, List.length_cons, List.length_nil] at hxl
  have f0 := hel 0 _ rfl
  have f1 := hel 1 _ rfl
  have f2 := hel 2 _ rfl
  obtain ⟨y0, g0⟩ := hx 0 (by omega)
  rw [g0] at f0
  obtain ⟨y1, g1⟩ := hx 1 (by omega)
  rw [g1] at f1
  obtain ⟨y2, g2⟩ := hx 2 (by omega)
  rw [g2] at f2
  obtain ⟨z0, e0⟩ := int_at f0 cellsInt
  obtain ⟨z1, e1⟩ := int_at f1 cellsInt
  obtain ⟨z2, e2⟩ := int_at f2 cellsInt
  exact ⟨⟨z0, z1, z2⟩, sub_get e0, sub_get e1, sub_get e2⟩
theorem bin_at {n k o : Nat} {cs : List Value} {y : DataW H × List MemPlace} (h : DataW.trod enc Tryz.prog W b sp hd n 28 ((cs.drop o).take k) = some y) :
    ∃ x : Bn, cs[o]? = some (Value.int .i64 x.id) ∧ cs[o + 1]? = some (Value.int .i64 x.zone) ∧ cs[o + 2]? = some (Value.int .i64 x.cap) ∧ cs[o + 3]? = some (Value.int .i64 x.used) ∧ cs[o + 4]? = some (Value.int .i64 x.has) := by
  obtain ⟨xs, m, rfl, _, hl, hxl, hel⟩ := DataW.trod_struct Tryz.underlying28 h
  have hx : ∀ i, i < xs.length → ∃ z, xs[i]? = some z := fun i hi => ⟨_, List.getElem?_eq_getElem hi⟩
  simp only [List.size_toArray, List.length_cons, List.length_nil] at hxl
  have f0 := hel 0 _ rfl
  have f1 := hel 1 _ rfl
  have f2 := hel 2 _ rfl
  have f3 := hel 3 _ rfl
  have f4 := hel 4 _ rfl
  obtain ⟨y0, g0⟩ := hx 0 (by omega)
  rw [g0] at f0
  obtain ⟨y1, g1⟩ := hx 1 (by omega)
  rw [g1] at f1
  obtain ⟨y2, g2⟩ := hx 2 (by omega)
  rw [g2] at f2
  obtain ⟨y3, g3⟩ := hx 3 (by omega)
  rw [g3] at f3
  obtain ⟨y4, g4⟩ := hx 4 (by omega)
  rw [g4] at f4
  obtain ⟨z0, e0⟩ := int_at f0 cellsInt
  obtain ⟨z1, e1⟩ := int_at f1 cellsInt
  obtain ⟨z2, e2⟩ := int_at f2 cellsInt
  obtain ⟨z3, e3⟩ := int_at f3 cellsInt
  obtain ⟨z4, e4⟩ := int_at f4 cellsInt
  exact ⟨⟨z0, z1, z2, z3, z4⟩, sub_get e0, sub_get e1, sub_get e2, sub_get e3, sub_get e4⟩
set_option maxRecDepth 100000 in
theorem opr_of {n : Nat} {cs : List Value} {y : DataW H × List MemPlace} (h : DataW.trod enc Tryz.prog W b sp hd n 46 cs = some y) : ∃ o : Opr, o.Fit ∧ ∀ (j : Nat) (u : Value), (oprCells o)[j]? = some u → cs[j]? = some u := by
  obtain ⟨xs, m, rfl, _, hl, hxl, hel⟩ := DataW.trod_struct Tryz.underlying46 h
  have hx : ∀ i, i < xs.length → ∃ z, xs[i]? = some z := fun i hi => ⟨_, List.getElem?_eq_getElem hi⟩
  simp only [List.size_toArray, List.length_cons, List.length_nil] at hxl
  have f0 := hel 0 _ rfl
  have f1 := hel 1 _ rfl
  have f2 := hel 2 _ rfl
  have f3 := hel 3 _ rfl
  have f4 := hel 4 _ rfl
  have f5 := hel 5 _ rfl
  have f6 := hel 6 _ rfl
  obtain ⟨y0, g0⟩ := hx 0 (by omega)
  rw [g0] at f0
  obtain ⟨y1, g1⟩ := hx 1 (by omega)
  rw [g1] at f1
  obtain ⟨y2, g2⟩ := hx 2 (by omega)
  rw [g2] at f2
  obtain ⟨y3, g3⟩ := hx 3 (by omega)
  rw [g3] at f3
  obtain ⟨y4, g4⟩ := hx 4 (by omega)
  rw [g4] at f4
  obtain ⟨y5, g5⟩ := hx 5 (by omega)
  rw [g5] at f5
  obtain ⟨y6, g6⟩ := hx 6 (by omega)
  rw [g6] at f6
  obtain ⟨z0, e0⟩ := int_at f0 cellsInt
  obtain ⟨z1, e1⟩ := int_at f1 cellsInt
  obtain ⟨z2, e2⟩ := int_at f2 cellsInt
  obtain ⟨z3, e3⟩ := int_at f3 cellsInt
  obtain ⟨s, e4, hs⟩ := str_at f4 cellsStr
  obtain ⟨x, e5, e6, e7⟩ := item_at f5
  obtain ⟨q, e8, e9, e10, e11, e12⟩ := bin_at f6
  refine ⟨⟨z0, z1, z2, z3, s, x, q⟩, hs, fun j u hj => ?_⟩
  match j, hj with
  | 0, hj => cases hj; exact e0
  | 1, hj => cases hj; exact e1
  | 2, hj => cases hj; exact e2
  | 3, hj => cases hj; exact e3
  | 4, hj => cases hj; exact e4
  | 5, hj => cases hj; exact e5
  | 6, hj => cases hj; exact e6
  | 7, hj => cases hj; exact e7
  | 8, hj => cases hj; exact e8
  | 9, hj => cases hj; exact e9
  | 10, hj => cases hj; exact e10
  | 11, hj => cases hj; exact e11
  | 12, hj => cases hj; exact e12
set_option maxRecDepth 100000 in
theorem script_of {r : Reach} {b0 : Nat} {v : Value} {d : DataW H} {ps : List MemPlace} (hval : Value.okWide Tryz.prog W r b0 22 v) (h : DataW.Trod enc Tryz.prog W 0 sp hd 22 v d ps) : ∃ n os, n ≤ maxLen ∧ Script W v n os := by
  obtain ⟨a0, len, cap, rfl⟩ := okWide_slice Tryz.underlying22 hval
  obtain ⟨fuel, hf⟩ := h
  rcases DataW.trod_slice Tryz.underlying22 hf with ⟨hcs, _⟩ | ⟨a, len', cap', elems, rest, n, rfl, hcs, hx, hb, hl, hm, hlen, hel, _, _⟩
  · simp [Value.cells] at hcs
    obtain ⟨rfl, rfl, rfl⟩ := hcs
    exact ⟨0, fun _ => ⟨0, 0, 0, 0, ⟨#[]⟩, ⟨0, 0, 0⟩, ⟨0, 0, 0, 0, 0⟩⟩, Nat.zero_le _, .inl ⟨⟨_, _, rfl⟩, rfl⟩⟩
  simp [Value.cells] at hcs
  obtain ⟨rfl, rfl, rfl⟩ := hcs
  have hex : ∀ i, ∃ o : Opr, i < len → o.Fit ∧ ∀ (j : Nat) (u : Value), (oprCells o)[j]? = some u → W.cell? ((a.add (i * 13)).add j) = some u := by
    intro i
    by_cases hi : i < len
    · have h1 := hel i hi
      rw [cellsOpr, List.getElem?_eq_getElem (by omega : i < elems.length)] at h1
      obtain ⟨cs', h2, h3⟩ := Option.bind_eq_some_iff.1 h1
      obtain ⟨_, hcl, hcc⟩ := World.cells?_some h2
      obtain ⟨o, ho, hoc⟩ := opr_of h3
      refine ⟨o, fun _ => ⟨ho, fun j u hj => ?_⟩⟩
      have hj13 : j < 13 := by have := (List.getElem?_eq_some_iff.1 hj).1; simpa [oprCells] using this
      rw [hcc j hj13]
      exact hoc j u hj
    · exact ⟨⟨0, 0, 0, 0, ⟨#[]⟩, ⟨0, 0, 0⟩, ⟨0, 0, 0, 0, 0⟩⟩, fun h => absurd h hi⟩
  by_cases h0 : len = 0
  · subst h0
    exact ⟨0, fun _ => ⟨0, 0, 0, 0, ⟨#[]⟩, ⟨0, 0, 0⟩, ⟨0, 0, 0, 0, 0⟩⟩, Nat.zero_le _, .inl ⟨⟨_, _, rfl⟩, rfl⟩⟩
  have hos := fun i => Classical.choose_spec (hex i)
  refine ⟨len, fun i => Classical.choose (hex i), by omega, ?_⟩
  obtain ⟨bk, off, spot⟩ := a
  have hc0 := (hos 0 (by omega)).2 0 _ rfl
  have hspot : spot = none := by simpa [Addr.add] using World.cell?_spot hc0
  subst hspot
  have hbk : bk < W.heap.size := by
    by_cases h : bk < W.heap.size
    · exact h
    · simp [World.cell?, Addr.add, Array.getElem?_eq_none (by omega : W.heap.size ≤ bk)] at hc0
  refine .inr ⟨bk, off, cap, rfl, hbk, fun i hi => ⟨(hos i hi).1, fun j u hj => ?_⟩⟩
  have := (hos i hi).2 j u hj
  rw [add_plain, add_plain] at this
  exact this
end
end Go.Proofs.YtblfeahabbghmaaGreatDoor

set_option linter.unusedVariables false
set_option linter.unusedSimpArgs false
namespace Go.Proofs.YtblfeahabbghmaaGreatDoor
open Go.RowKit Go.ChangeShapes Go.WideShapes Go.ChangeAt

theorem strs_of_trod {H : Type} {enc : TypeId × Value → H} {P : Program} {W : World} {sp : Nat → Bool} {hd : Bool} {t e : TypeId} {m fuel : Nat} {cs : List Value} {zs : List Txt} {q : List MemPlace} (ht : P.underlying t = some (.array m e)) (he : P.underlying e = some .string) (hc : P.cellsOf e = 1)
    (hd' : DataW.trod enc P W 0 sp hd fuel t cs = some (.agg (zs.map fun z => .lit (.string z)), q)) : ∀ (i : Nat) (z : Txt), zs[i]? = some z → cs[i]? = some (Value.string (bsOf z)) := by
  obtain ⟨xs, m1, rfl, hx, hlen, hxm, hel⟩ := DataW.trod_array ht hd'
  intro i z hz
  simp only [Prod.mk.injEq, DataW.agg.injEq] at hx
  have hl : zs.length = xs.length := by have := congrArg List.length hx.1; simpa using this
  have hi : i < zs.length := (List.getElem?_eq_some_iff.1 hz).1
  have h1 := hel i (by omega)
  rw [hc, List.getElem?_eq_getElem (by omega : i < xs.length)] at h1
  obtain ⟨k, e1, e2, _⟩ := DataW.trod_string he h1
  have h2 : (zs.map fun z => (DataW.lit (.string z) : DataW H))[i]? = (xs.map (·.1))[i]? := by rw [hx.1]
  rw [List.getElem?_map, List.getElem?_map, hz, List.getElem?_eq_getElem (by omega : i < xs.length), Option.map_some, Option.map_some, e2] at h2
  have hk : z = k.data.toList := by simpa using h2
  have hkb : bsOf z = k := by rw [hk]; cases k; simp [bsOf]
  rw [hkb]
  have h3 : ((cs.drop (i * 1)).take 1)[0]? = some (.string k) := by rw [e1]; rfl
  rw [List.getElem?_take, if_pos (by omega), List.getElem?_drop] at h3
  simpa using h3
theorem dWords : (Rows.laid_slots_token_words : DataW Unit) = .agg (tWords.map fun z => .lit (.string z)) := rfl
theorem dSigns : (Rows.laid_slots_token_signs : DataW Unit) = .agg (tSign.map fun z => .lit (.string z)) := rfl
def laidNameC (i : Nat) : String := ((Rows.checksRow.laid[i]?).map (·.1)).getD default
theorem gWords : Tryz.prog.globalNamed (laidNameC 6) = some 3 := by kernel_rfl
theorem gSigns : Tryz.prog.globalNamed (laidNameC 7) = some 4 := by kernel_rfl
theorem tyWords : (Tryz.prog.globals[3]?).map (·.type) = some 235 := by kernel_rfl
theorem tySigns : (Tryz.prog.globals[4]?).map (·.type) = some 236 := by kernel_rfl
theorem undWords : Tryz.prog.underlying 235 = some (.array 19 9) := by kernel_rfl
theorem undSigns : Tryz.prog.underlying 236 = some (.array 12 9) := by kernel_rfl
theorem cellsStr' : Tryz.prog.cellsOf 9 = 1 := by kernel_rfl
theorem table_str {W : World} {nm : String} {g t ty m : Nat} {cs : Array Value} {fuel : Nat} {p : List MemPlace} {zs : List Txt} {d : DataW Unit} (k : Nat) (hgk : Tryz.prog.globalNamed nm = some k) (htk : (Tryz.prog.globals[k]?).map (·.type) = some ty) (hu : Tryz.prog.underlying ty = some (.array m 9)) (hd0 : d = .agg (zs.map fun z => .lit (.string z)))
    (hg : Tryz.prog.globalNamed nm = some g) (ht : (Tryz.prog.globals[g]?).map (·.type) = some t) (hv : W.var? Tryz.prog nm = some cs) (hd : DataW.trod (fun _ => ()) Tryz.prog W 0 (fun _ => true) false fuel t cs.toList = some (d, p)) :
    ∀ (i : Nat) (z : Txt), zs[i]? = some z → W.cell? ⟨k, i, none⟩ = some (.string (bsOf z)) := by
  obtain rfl := Option.some.inj (hgk.symm.trans hg)
  obtain rfl := Option.some.inj (htk.symm.trans ht)
  subst hd0
  intro i z hz
  have h1 := strs_of_trod hu Tryz.underlying9 cellsStr' hd i z hz
  rw [World.var?_cell hgk hv i]
  simpa using h1
def laidAllC : List (String × DataW Unit) := Rows.checksRow.laid
theorem globT_of_laid {W : World} (h : laidMetH Tryz.prog laidAllC W) : GlobT W := by
  rw [MakeChecks.laidMetH_plain _ _ _ (by kernel_rfl)] at h
  obtain ⟨ps, ⟨g0, t0, cs0, f0, p0, q0, hg0, ht0, hv0, hd0, ⟨g1, t1, cs1, f1, p1, q1, hg1, ht1, hv1, hd1, ⟨g2, t2, cs2, f2, p2, q2, hg2, ht2, hv2, hd2, ⟨g3, t3, cs3, f3, p3, q3, hg3, ht3, hv3, hd3, ⟨g4, t4, cs4, f4, p4, q4, hg4, ht4, hv4, hd4, ⟨g5, t5, cs5, f5, p5, q5, hg5, ht5, hv5, hd5, ⟨g6, t6, cs6, f6, p6, q6, hg6, ht6, hv6, hd6, ⟨g7, t7, cs7, f7, p7, q7, hg7, ht7, hv7, hd7, _, _⟩, _⟩, _⟩, _⟩, _⟩, _⟩, _⟩, _⟩, _, _⟩ := h
  have hb := table_str 3 gWords tyWords undWords dWords hg6 ht6 hv6 hd6
  have ht := table_str 4 gSigns tySigns undSigns dSigns hg7 ht7 hv7 hd7
  have hlt : ∀ (k : Nat) (v : Value), W.cell? ⟨k, 0, none⟩ = some v → k < W.heap.size := fun k v hc => by
    by_cases h : k < W.heap.size
    · exact h
    · simp [World.cell?, Array.getElem?_eq_none (by omega : W.heap.size ≤ k)] at hc
  exact ⟨fun i hi => hb i _ (List.getElem?_eq_getElem hi), fun i hi => ht i _ (List.getElem?_eq_getElem hi), hlt _ _ (hb 0 _ rfl), hlt _ _ (ht 0 _ rfl)⟩
end Go.Proofs.YtblfeahabbghmaaGreatDoor
