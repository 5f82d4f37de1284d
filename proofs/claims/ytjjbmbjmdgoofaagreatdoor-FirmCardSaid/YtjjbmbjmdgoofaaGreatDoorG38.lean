/-
  What the program's small functions on operations do: hasHead, lowestFirst, At, Takes, Lays, Ends, Jumps, Target.
-/
import Derived.Test.YtjjbmbjmdgoofaaGreatDoorG37
import Derived.Test.YtjjbmbjmdgoofaaGreatDoorG00
import Derived.Test.YtjjbmbjmdgoofaaGreatDoorG20
import Derived.Laws.BitsAllLaws
import Derived.Test.YtjjbmbjmdgoofaaGreatDoorG23
import Derived.Deep.LoopGhost
import Derived.Deep.Light
set_option linter.unusedVariables false
set_option linter.unusedSimpArgs false
namespace Go.Proofs.YtjjbmbjmdgoofaaGreatDoor
open Go.RowKit
structure GlobP (w : World) : Prop where
  bytes : ∀ c, c < 18 → w.cell? ⟨0, c, none⟩ = some (.int .i64 (behindN c))
  takes : ∀ c, c < 18 → w.cell? ⟨1, c, none⟩ = some (.int .i64 (takesN c))
  lays : ∀ c, c < 18 → w.cell? ⟨2, c, none⟩ = some (.int .i64 (laysN c))
  size : 0 < w.heap.size ∧ 1 < w.heap.size ∧ 2 < w.heap.size
theorem GlobP.below {w w' : World} (h : GlobP w) (hb : Below w.heap.size w w') : GlobP w' :=
  ⟨fun c hc => (hb.cell (p := ⟨0, c, none⟩) h.size.1).trans (h.bytes c hc), fun c hc => (hb.cell (p := ⟨1, c, none⟩) h.size.2.1).trans (h.takes c hc), fun c hc => (hb.cell (p := ⟨2, c, none⟩) h.size.2.2).trans (h.lays c hc), ⟨Nat.lt_of_lt_of_le h.size.1 hb.size, Nat.lt_of_lt_of_le h.size.2.1 hb.size, Nat.lt_of_lt_of_le h.size.2.2 hb.size⟩⟩
structure GlobY (w : World) : Prop where
  bytes : ∀ c, c < 18 → w.cell? ⟨0, c, none⟩ = some (.int .i64 (behindN c))
  size : 0 < w.heap.size
theorem GlobY.below {w w' : World} (h : GlobY w) (hb : Below w.heap.size w w') : GlobY w' :=
  ⟨fun c hc => (hb.cell (p := ⟨0, c, none⟩) h.size).trans (h.bytes c hc), Nat.lt_of_lt_of_le h.size hb.size⟩
theorem GlobP.y {w : World} (h : GlobP w) : GlobY w := ⟨h.bytes, h.size.1⟩
def headB (s : ByteArray) : Bool := decide (4 ≤ s.size) && decide (s.size ≤ 4000) && decide (bt s 0 = 83) && decide (bt s 1 = 76)
theorem headB_iff (s : ByteArray) : headB s = true ↔ HeadOk s := by
  unfold headB HeadOk
  simp only [Bool.and_eq_true, decide_eq_true_eq, and_assoc]
theorem headB_false {s : ByteArray} (h : ¬ HeadOk s) : headB s = false := by
  cases hb : headB s
  · rfl
  · exact absurd ((headB_iff s).1 hb) h
set_option maxHeartbeats 400000 in
theorem hasHead_any (s : ByteArray) (w : World) :
    Calls Tryz.prog 69 #[.string s] w fun e w' => e = .returned (.bool (headB s)) ∧ w' = w := by
  by_cases h1 : s.size ≤ 3
  · go_enter Tryz.func69, Tryz.ntmps69
    go_wp2
    go_ret
    exact ⟨ret_bool (by symm; apply headB_false; intro h; have := h.1; omega), rfl⟩
  by_cases h2 : 4000 < s.size
  · go_enter Tryz.func69, Tryz.ntmps69
    go_wp2
    go_ret
    exact ⟨ret_bool (by symm; apply headB_false; intro h; have := h.2.1; omega), rfl⟩
  have hi0 := fun wx => run_index_nat (P := Tryz.prog) wx 9 s .i64 0 0 Tryz.underlying9 rfl (by omega)
  have hi1 := fun wx => run_index_nat (P := Tryz.prog) wx 9 s .i64 1 1 Tryz.underlying9 rfl (by omega)
  have HB0 : Hid (bt s 0 = s[0].toNat) := bt_get s 0 (by omega)
  have HB1 : Hid (bt s 1 = s[1].toNat) := bt_get s 1 (by omega)
  obtain ⟨c0, hc0⟩ : ∃ c, c = (s[0]'(by omega)).toNat := ⟨_, rfl⟩
  obtain ⟨c1, hc1⟩ : ∃ c, c = (s[1]'(by omega)).toNat := ⟨_, rfl⟩
  rw [← hc0] at hi0 HB0
  rw [← hc1] at hi1 HB1
  clear hc0 hc1
  have HD : Hid (headB s = (((c0 : Int) == 83) && ((c1 : Int) == 76))) := (by
    rw [Bool.eq_iff_iff, headB_iff]
    unfold HeadOk
    rw [HB0.out, HB1.out]
    simp
    omega : headB s = (((c0 : Int) == 83) && ((c1 : Int) == 76)))
  cases h3 : ((c0 : Int) == 83)
  all_goals
    go_enter Tryz.func69, Tryz.ntmps69
    go_wp2
    go_ret
    exact ⟨ret_bool (by rw [HD.out]; simp [h3]), rfl⟩
theorem bt_ext (s : ByteArray) (a b i : Nat) (h : i < (s.extract a b).size) : bt (s.extract a b) i = bt s (a + i) := by
  have h2 : a + i < s.size := by rw [ByteArray.size_extract] at h; omega
  rw [bt_get _ _ h, bt_get _ _ h2]
  congr 1
  have h3 := getElem_toList (s.extract a b) i h
  have h4 := getElem_toList s (a + i) h2
  have e : (s.extract a b).toList = (s.toList.drop a).take (b - a) := by rw [extract_bsOf, bsOf_toList]
  rw [ByteArray.size_extract] at h
  rw [e, List.getElem?_take, if_pos (by omega), List.getElem?_drop, h4] at h3
  exact (Option.some.inj h3).symm
theorem lowU_ext (s : ByteArray) (a b : Nat) : ∀ (n k : Nat), k + n ≤ (s.extract a b).size → lowU (s.extract a b) k n = lowU s (a + k) n
  | 0, _, _ => rfl
  | n + 1, k, h => by
    simp only [lowU]
    rw [bt_ext s a b k (by omega), lowU_ext s a b n (k + 1) (by omega), Nat.add_assoc]
theorem lowU_lt (s : ByteArray) : ∀ (n k : Nat), lowU s k n < 256 ^ n
  | 0, _ => by simp [lowU]
  | n + 1, k => by
    have h1 := lowU_lt s n (k + 1)
    have h2 := bt_lt s k
    simp only [lowU, Nat.pow_succ]
    omega
theorem or_low (L b : Nat) (hL : L < 72057594037927936) (hb : b < 256) : bits .or .u64 (IntKind.u64.wrap ((L : Int) * 256)) (IntKind.u64.wrap (b : Nat)) = ((b + 256 * L : Nat) : Int) := by
  rw [IntWalk.u64_in _ ⟨by omega, by omega⟩, IntWalk.u64_in _ ⟨by omega, by omega⟩]
  have e : (L : Int) * 256 = ((L * 256 : Nat) : Int) := by omega
  rw [e, u64_or_nat _ _ (by omega) (by omega)]
  have h := Nat.shiftLeft_add_eq_or_of_lt (i := 8) (b := b) (by omega) L
  rw [Nat.shiftLeft_eq] at h
  rw [← h]
  omega
set_option maxHeartbeats 1000000 in
theorem lowestFirst_any (t : ByteArray) (ht : t.size ≤ 8) (w : World) :
    Calls Tryz.prog 131 #[.string t] w fun e w' => e = .returned (.int .i64 (IntKind.i64.wrap (lowU t 0 t.size : Nat))) ∧ w' = w := by
  go_enter Tryz.func131, Tryz.ntmps131
  go_wp2
  go_loop [3, 4] (fun v i => ∃ j : Nat, j ≤ t.size ∧ i = .int .i64 ((j : Int) - 1) ∧ v = .int .u64 (lowU t j (t.size - j) : Nat)) (fun _ i => (intOf i + 1).toNat)
  case atStart => exact ⟨t.size, Nat.le_refl _, by go_num, by simp [lowU]⟩
  case round =>
    obtain ⟨j, hj, rfl, rfl⟩ := hrel
    by_cases h0 : 0 < j
    · have hb : j - 1 < t.size := by omega
      have hbt : (t[j - 1]'hb).toNat = bt t (j - 1) := (bt_get t _ hb).symm
      have hix := fun wx => run_index_nat (P := Tryz.prog) wx 9 t .i64 ((j : Int) - 1) (j - 1) Tryz.underlying9 (by omega) hb
      go_wp2
      go_round
      case rel => exact ⟨j - 1, by omega, by go_num, by
          have hL := lowU_lt t (t.size - j) j
          have h7 : 256 ^ (t.size - j) ≤ 256 ^ 7 := Nat.pow_le_pow_right (by omega) (by omega)
          have e := lowU_step t 0 j t.size h0 hj
          simp only [Nat.zero_add] at e
          rw [e, or_low _ _ (by omega) (bt_lt t (j - 1))]⟩
      case measure => simp [intOf]; omega
    · go_wp2
      go_ret
      have : j = 0 := by omega
      subst this
      exact ⟨ret_int (by rw [IntWalk.i64_left]; simp), rfl⟩
end Go.Proofs.YtjjbmbjmdgoofaaGreatDoor
namespace Go.Proofs.YtjjbmbjmdgoofaaGreatDoor
open Go.RowKit
def opV (o : Ins) : Value := .agg #[.int .i64 o.op, .int .i64 o.arg, .int .i64 o.next]
def noV : Value := .agg #[.int .i64 0, .int .i64 0, .int .i64 0]
set_option maxHeartbeats 1000000 in
set_option maxRecDepth 10000 in
theorem At_any (s : ByteArray) (hs : s.size ≤ 4000) (p : Nat) (hp : p ≤ 100000) (w : World) (hg : GlobY w) :
    Calls Tryz.prog 97 #[.string s, .int .i64 p] w fun e w' => Below w.heap.size w w' ∧
      ((OpOkI s p ∧ e = .returned (.tuple #[opV (mkIns s p), .bool true])) ∨ (¬ OpOkI s p ∧ e = .returned (.tuple #[noV, .bool false]))) := by
  have HG : Hid (GlobY w) := hg
  clear hg
  by_cases hlt : p < s.size
  case neg =>
    go_enter Tryz.func97, Tryz.ntmps97
    go_wp2
    refine bodyPost_ret (v := .tuple #[noV, .bool false]) (by simp [results, Tryz.results97, go_sem, noV]) rfl ?_
    exact ⟨box3 _ _, .inr ⟨fun h => hlt h.1, rfl⟩⟩
  have HB : Hid (bt s p = s[p].toNat) := bt_get s p hlt
  obtain ⟨c, hc⟩ : ∃ c, c = s[p].toNat := ⟨_, rfl⟩
  have hc256 : c < 256 := by rw [hc]; exact UInt8.toNat_lt _
  obtain ⟨n, hn⟩ : ∃ n, n = behindN c := ⟨_, rfl⟩
  have hn8 : n ≤ 8 := by rw [hn]; unfold behindN; (repeat' split) <;> omega
  have hm : mkIns s p = ⟨p, c, IntKind.i64.wrap (lowU s (p + 1) n : Nat), p + 1 + n⟩ := by simp only [mkIns, HB.out, ← hc, ← hn]
  obtain ⟨a, ha⟩ : ∃ a, a = IntKind.i64.wrap (lowU s (p + 1) n : Nat) := ⟨_, rfl⟩
  have ha1 : c = 1 → a = bt s (p + 1) := by
    intro h
    have h1 : n = 1 := by rw [hn, h]; rfl
    rw [ha, h1, lowU_one]
    exact wrap_small _ (by have := bt_lt s (p + 1); omega)
  rw [← ha] at hm
  have hopk : OpOkI s p ↔ c ≤ 17 ∧ p + 1 + n ≤ s.size ∧ (c = 1 → a ≤ 6) := by
    unfold OpOkI
    rw [HB.out, ← hc, ← hn]
    constructor
    · rintro ⟨_, h1, h2, h3⟩
      exact ⟨h1, h2, fun h => by rw [ha1 h]; have := h3 h; omega⟩
    · rintro ⟨h1, h2, h3⟩
      exact ⟨hlt, h1, h2, fun h => by have := h3 h; rw [ha1 h] at this; omega⟩
  have HO : Hid (OpOkI s p ↔ c ≤ 17 ∧ p + 1 + n ≤ s.size ∧ (c = 1 → a ≤ 6)) := hopk
  have HM : Hid (mkIns s p = ⟨p, c, a, p + 1 + n⟩) := hm
  have HA : Hid (IntKind.i64.wrap (lowU s (p + 1) n : Nat) = a) := ha.symm
  have HN : Hid (behindN c = n) := hn.symm
  have hix := fun wx => run_index_nat (P := Tryz.prog) wx 9 s .i64 (p : Int) p Tryz.underlying9 rfl hlt
  rw [← hc] at hix
  clear hopk hm ha hn ha1 HB hc
  by_cases h17 : c ≤ 17
  case neg =>
    go_enter Tryz.func97, Tryz.ntmps97
    go_wp2
    refine bodyPost_ret (v := .tuple #[noV, .bool false]) (by simp [results, Tryz.results97, go_sem, noV]) rfl ?_
    exact ⟨box3 _ _, .inr ⟨fun h => h17 (HO.out.1 h).1, rfl⟩⟩
  have ct : w.cell? ⟨0, c, none⟩ = some (.int .i64 n) := by rw [HG.out.bytes c (by omega), HN.out]
  have hb0 : 0 < w.heap.size := HG.out.size
  by_cases hfit : p + 1 + n ≤ s.size
  case neg =>
    go_enter Tryz.func97, Tryz.ntmps97
    go_wp2
    refine bodyPost_ret (v := .tuple #[noV, .bool false]) (by simp [results, Tryz.results97, go_sem, noV]) rfl ?_
    exact ⟨box3 _ _, .inr ⟨fun h => hfit (HO.out.1 h).2.1, rfl⟩⟩
  have hsz : (s.extract (p + 1) s.size).size = s.size - (p + 1) := by rw [ByteArray.size_extract]; omega
  have hszn : ((s.extract (p + 1) s.size).extract 0 n).size = n := by rw [ByteArray.size_extract, hsz]; omega
  have HL : Hid (IntKind.i64.wrap (lowU ((s.extract (p + 1) s.size).extract 0 n) 0 ((s.extract (p + 1) s.size).extract 0 n).size : Nat) = a) := (by
    rw [hszn, lowU_ext _ 0 n n 0 (by rw [hszn]; omega), lowU_ext s (p + 1) s.size n _ (by rw [hsz]; omega)]
    exact HA.out : _ = a)
  have hz8 : Hid (((s.extract (p + 1) s.size).extract 0 n).size ≤ 8) := (by rw [hszn]; exact hn8 : _ ≤ 8)
  clear hsz hszn
  by_cases hatt : c = 1 ∧ 6 < a
  · obtain ⟨h1, h6⟩ := hatt
    have HX : Hid (c = 1) := h1
    have hcb : ((c : Int) == 1) = true := by simp; omega
    clear h1
    go_enter Tryz.func97, Tryz.ntmps97
    go_wp2_with (go_at_call 131; refine (lowestFirst_any _ hz8.out _).mono ?_; rintro e w' ⟨rfl, rfl⟩; rw [HL.out])
    refine bodyPost_ret (v := .tuple #[noV, .bool false]) (by simp [results, Tryz.results97, go_sem, noV]) rfl ?_
    exact ⟨box3 _ _, .inr ⟨fun h => by have := (HO.out.1 h).2.2 HX.out; omega, rfl⟩⟩
  have HK : Hid (OpOkI s p) := HO.out.2 ⟨h17, hfit, fun h => by
    by_cases h6 : 6 < a
    · exact absurd ⟨h, h6⟩ hatt
    · omega⟩
  have hcase : ((c : Int) == 1) = false ∨ (((c : Int) == 1) = true ∧ ¬ 6 < a) := by
    by_cases h : c = 1
    · exact .inr ⟨by simp; omega, fun h6 => hatt ⟨h, h6⟩⟩
    · exact .inl (by simp; omega)
  clear hatt
  rcases hcase with hc1 | ⟨hc1, hc6⟩
  all_goals
    go_enter Tryz.func97, Tryz.ntmps97
    go_wp2_with (go_at_call 131; refine (lowestFirst_any _ hz8.out _).mono ?_; rintro e w' ⟨rfl, rfl⟩; rw [HL.out])
    refine bodyPost_ret (v := .tuple #[.agg #[.int .i64 c, .int .i64 a, .int .i64 ((p : Int) + 1 + n)], .bool true]) (by simp [results, Tryz.results97, go_sem]) rfl ?_
    exact ⟨box3 _ _, .inl ⟨HK.out, by rw [HM.out]; rfl⟩⟩
set_option maxHeartbeats 1000000 in
theorem Takes_any (o : Ins) (ho : o.op ≤ 17) (w : World) (hg : GlobP w) :
    Calls Tryz.prog 101 #[opV o] w fun e w' => e = .returned (.int .i64 (takesN o.op)) ∧ Below w.heap.size w w' := by
  have ct := hg.takes o.op (by omega)
  have hb := hg.size.2.1
  clear hg
  unfold opV
  go_enter Tryz.func101, Tryz.ntmps101
  go_wp2
  go_ret
  exact ⟨rfl, box3 _ _⟩
set_option maxHeartbeats 1000000 in
theorem Lays_any (o : Ins) (ho : o.op ≤ 17) (w : World) (hg : GlobP w) :
    Calls Tryz.prog 104 #[opV o] w fun e w' => e = .returned (.int .i64 (laysN o.op)) ∧ Below w.heap.size w w' := by
  have ct := hg.lays o.op (by omega)
  have hb := hg.size.2.2
  clear hg
  unfold opV
  go_enter Tryz.func104, Tryz.ntmps104
  go_wp2
  go_ret
  exact ⟨rfl, box3 _ _⟩
set_option maxHeartbeats 1000000 in
theorem Ends_any (o : Ins) (w : World) :
    Calls Tryz.prog 103 #[opV o] w fun e w' => e = .returned (.bool (((o.op : Int) == 16) || ((o.op : Int) == 17))) ∧ Below w.heap.size w w' := by
  unfold opV
  cases h : ((o.op : Int) == 16)
  all_goals
    go_enter Tryz.func103, Tryz.ntmps103
    go_wp2
    go_ret
    exact ⟨ret_bool (by simp [h]), box3 _ _⟩
set_option maxHeartbeats 1000000 in
theorem Jumps_any (o : Ins) (w : World) :
    Calls Tryz.prog 105 #[opV o] w fun e w' => e = .returned (.bool ((((o.op : Int) == 13) || ((o.op : Int) == 14)) || ((o.op : Int) == 15))) ∧ Below w.heap.size w w' := by
  unfold opV
  cases h : ((o.op : Int) == 13) <;> cases h2 : ((o.op : Int) == 14)
  all_goals
    go_enter Tryz.func105, Tryz.ntmps105
    go_wp2
    go_ret
    exact ⟨ret_bool (by simp [h, h2]), box3 _ _⟩
set_option maxHeartbeats 1000000 in
theorem Target_any (o : Ins) (h1 : 0 ≤ o.arg) (h2 : o.arg ≤ 65535) (h3 : o.next ≤ 100000) (w : World) :
    Calls Tryz.prog 106 #[opV o] w fun e w' => e = .returned (.int .i64 ((o.next : Int) + o.arg)) ∧ Below w.heap.size w w' := by
  unfold opV
  go_enter Tryz.func106, Tryz.ntmps106
  go_wp2
  go_ret
  exact ⟨rfl, box3 _ _⟩
end Go.Proofs.YtjjbmbjmdgoofaaGreatDoor
namespace Go.Proofs.YtjjbmbjmdgoofaaGreatDoor
open Go.RowKit
end Go.Proofs.YtjjbmbjmdgoofaaGreatDoor
namespace Go.Proofs.YtjjbmbjmdgoofaaGreatDoor
open Go.RowKit
theorem Tryz.infoInt : (Tryz.prog.info? 3).map (fun i => (i.zero, i.size, i.bytes)) = some (some (.int .i64 0), 1, 8) := by kernel_rfl
end Go.Proofs.YtjjbmbjmdgoofaaGreatDoor
namespace Go.Proofs.YtjjbmbjmdgoofaaGreatDoor
open Go.RowKit
def arrH (hs : Nat → Int) (n : Nat) : Array Value := ((List.range n).map fun q => Value.int .i64 (hs q)).toArray
theorem arrH_get (hs : Nat → Int) (n i : Nat) (h : i < n) : (arrH hs n)[i]? = some (.int .i64 (hs i)) := by simp [arrH, h]
theorem arrH_set (hs : Nat → Int) (n k : Nat) (v : Int) : (arrH hs n).setIfInBounds k (.int .i64 v) = arrH (upd hs k v) n := by
  apply Array.ext
  · simp [arrH]
  · intro i h1 h2
    have hi : i < n := by simpa [arrH] using h2
    rw [Array.getElem_setIfInBounds (by simpa [arrH] using hi)]
    simp only [arrH, upd, List.getElem_toArray, List.getElem_map, List.getElem_range]
    by_cases h : k = i
    · subst h; simp
    · simp [h, Ne.symm h]
theorem arrH_congr {hs gs : Nat → Int} {n : Nat} (h : ∀ i, i < n → hs i = gs i) : arrH hs n = arrH gs n := by
  unfold arrH
  congr 1
  exact List.map_congr_left fun q hq => by rw [h q (by simpa using hq)]
theorem made_zero (n : Nat) : madeCells (Value.int .i64 0).cells (n * 1) = arrH (fun _ => 0) n := by
  apply Array.ext
  · simp [arrH, madeCells]
  · intro i h1 h2
    have e : (Value.int .i64 0).cells = #[Value.int .i64 0] := rfl
    simp [e, arrH, madeCells, Nat.mod_one]
theorem run_make_ints {P : Program} (w : World) (t e : TypeId) (i : TypeInfo) (ht : P.underlying t = some (.slice e)) (hi : P.info? e = some i) (hz : i.zero = some (.int .i64 0)) (hs : i.size = 1) (hb : i.bytes = 8) (n : Nat) (hn : n ≤ 4000) :
    (Instr.makeSlice t (.int .i64 n) (.int .i64 n)).run P w = .ok (.slice (some ⟨w.heap.size, 0, none⟩) n n) (w.alloc (.cells (arrH (fun _ => 0) n) e)) := by
  have := run_make (P := P) w t e i _ ht hi hz .i64 .i64 n n (by omega) (by omega) (by rw [hb]; omega) (by omega)
  rw [this, hs, Int.toNat_natCast, made_zero]
theorem own_setCell {w : World} {base : Nat} {e : TypeId} {size : Nat} {v : Value} {n : Nat} {xs : List Value} (h : w.ownsRow base e size v n xs) (p : Addr) (x : Value) (hp : p.block < base) : (w.setCell p x).ownsRow base e size v n xs := by
  refine ⟨h.1, ?_⟩
  rcases h.2 with hn | ⟨g, cap, cur, rfl, hbg, hg, r⟩
  · exact .inl hn
  · exact .inr ⟨g, cap, cur, rfl, hbg, by rw [Below.heap_setCell _ _ _ _ (by omega)]; exact hg, r⟩
end Go.Proofs.YtjjbmbjmdgoofaaGreatDoor
