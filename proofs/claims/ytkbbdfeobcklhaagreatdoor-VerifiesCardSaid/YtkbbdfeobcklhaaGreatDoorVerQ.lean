/-
  What the program's At and the methods of an operation do.
-/
import Derived.Test.YtkbbdfeobcklhaaGreatDoorVerP
set_option linter.unusedVariables false
set_option linter.unusedSimpArgs false
namespace Go.Proofs.YtkbbdfeobcklhaaGreatDoor
open Go.RowKit

/-- An operation, as the program holds it. -/
def opV (o : Ins) : Value := .agg #[.int .i64 o.op, .int .i64 o.arg, .int .i64 o.next]
def noV : Value := .agg #[.int .i64 0, .int .i64 0, .int .i64 0]
theorem box3 (w : World) (o : Obj) : Below w.heap.size w (w.alloc o) := (Below.refl _ _).alloc (Nat.le_refl _) _
set_option maxHeartbeats 1000000 in
set_option maxRecDepth 10000 in
theorem At_any (s : ByteArray) (hs : s.size ≤ 4000) (p : Nat) (hp : p ≤ 100000) (w : World) (hg : GlobP w) :
    Calls Tryz.prog 81 #[.string s, .int .i64 p] w fun e w' => Below w.heap.size w w' ∧
      ((OpOkI s p ∧ e = .returned (.tuple #[opV (mkIns s p), .bool true])) ∨ (¬ OpOkI s p ∧ e = .returned (.tuple #[noV, .bool false]))) := by
  have HG : Hid (GlobP w) := hg
  clear hg
  by_cases hlt : p < s.size
  case neg =>
    go_enter Tryz.func81, Tryz.ntmps81
    go_wp2
    refine bodyPost_ret (v := .tuple #[noV, .bool false]) (by simp [results, Tryz.results81, go_sem, noV]) rfl ?_
    exact ⟨box3 _ _, .inr ⟨fun h => hlt h.1, rfl⟩⟩
  have HB : Hid (bt s p = s[p].toNat) := bt_get s p hlt
  obtain ⟨c, hc⟩ : ∃ c, c = s[p].toNat := ⟨_, rfl⟩
  have hc256 : c < 256 := by rw [hc]; exact UInt8.toNat_lt _
  obtain ⟨n, hn⟩ : ∃ n, n = behindN c := ⟨_, rfl⟩
  have hn8 : n ≤ 8 := by rw [hn]; unfold behindN; (repeat' split) <;> omega
  have hm : mkIns s p = ⟨p, c, IntKind.i64.wrap (lowU s (p + 1) n : Nat), p + 1 + n⟩ := by simp only [mkIns, HB.out, ← hc, ← hn]
  obtain ⟨a, ha⟩ : ∃ a, a = IntKind.i64.wrap (lowU s (p + 1) n : Nat) := ⟨_, rfl⟩
  have ha1 : c = 1 → a = bt s (p + 1) := by
    intro h
    have h1 : n = 1 := by rw [hn, h]; rfl
    rw [ha, h1, lowU_one]
    exact wrap_small _ (by have := bt_lt s (p + 1); omega)
  rw [← ha] at hm
  have hopk : OpOkI s p ↔ c ≤ 17 ∧ p + 1 + n ≤ s.size ∧ (c = 1 → a ≤ 6) := by
    unfold OpOkI
    rw [HB.out, ← hc, ← hn]
    constructor
    · rintro ⟨_, h1, h2, h3⟩
      exact ⟨h1, h2, fun h => by rw [ha1 h]; have := h3 h; omega⟩
    · rintro ⟨h1, h2, h3⟩
      exact ⟨hlt, h1, h2, fun h => by have := h3 h; rw [ha1 h] at this; omega⟩
  have HO : Hid (OpOkI s p ↔ c ≤ 17 ∧ p + 1 + n ≤ s.size ∧ (c = 1 → a ≤ 6)) := hopk
  have HM : Hid (mkIns s p = ⟨p, c, a, p + 1 + n⟩) := hm
  have HA : Hid (IntKind.i64.wrap (lowU s (p + 1) n : Nat) = a) := ha.symm
  have HN : Hid (behindN c = n) := hn.symm
  have hix := fun wx => run_index_nat (P := Tryz.prog) wx 9 s .i64 (p : Int) p Tryz.underlying9 rfl hlt
  rw [← hc] at hix
  clear hopk hm ha hn ha1 HB hc
  by_cases h17 : c ≤ 17
  case neg =>
    go_enter Tryz.func81, Tryz.ntmps81
    go_wp2
    refine bodyPost_ret (v := .tuple #[noV, .bool false]) (by simp [results, Tryz.results81, go_sem, noV]) rfl ?_
    exact ⟨box3 _ _, .inr ⟨fun h => h17 (HO.out.1 h).1, rfl⟩⟩
  have ct : w.cell? ⟨0, c, none⟩ = some (.int .i64 n) := by rw [HG.out.bytes c (by omega), HN.out]
  have hb0 : 0 < w.heap.size := HG.out.size.1
  by_cases hfit : p + 1 + n ≤ s.size
  case neg =>
    go_enter Tryz.func81, Tryz.ntmps81
    go_wp2
    refine bodyPost_ret (v := .tuple #[noV, .bool false]) (by simp [results, Tryz.results81, go_sem, noV]) rfl ?_
    exact ⟨box3 _ _, .inr ⟨fun h => hfit (HO.out.1 h).2.1, rfl⟩⟩
  have hsz : (s.extract (p + 1) s.size).size = s.size - (p + 1) := by rw [ByteArray.size_extract]; omega
  have hszn : ((s.extract (p + 1) s.size).extract 0 n).size = n := by rw [ByteArray.size_extract, hsz]; omega
  have HL : Hid (IntKind.i64.wrap (lowU ((s.extract (p + 1) s.size).extract 0 n) 0 ((s.extract (p + 1) s.size).extract 0 n).size : Nat) = a) := (by
    rw [hszn, lowU_ext _ 0 n n 0 (by rw [hszn]; omega), lowU_ext s (p + 1) s.size n _ (by rw [hsz]; omega)]
    exact HA.out : _ = a)
  have hz8 : Hid (((s.extract (p + 1) s.size).extract 0 n).size ≤ 8) := (by rw [hszn]; exact hn8 : _ ≤ 8)
  clear hsz hszn
  by_cases hatt : c = 1 ∧ 6 < a
  · obtain ⟨h1, h6⟩ := hatt
    have HX : Hid (c = 1) := h1
    have hcb : ((c : Int) == 1) = true := by simp; omega
    clear h1
    go_enter Tryz.func81, Tryz.ntmps81
    go_wp2_with (go_at_call 119; refine (lowestFirst_any _ hz8.out _).mono ?_; rintro e w' ⟨rfl, rfl⟩; rw [HL.out])
    refine bodyPost_ret (v := .tuple #[noV, .bool false]) (by simp [results, Tryz.results81, go_sem, noV]) rfl ?_
    exact ⟨box3 _ _, .inr ⟨fun h => by have := (HO.out.1 h).2.2 HX.out; omega, rfl⟩⟩
  have HK : Hid (OpOkI s p) := HO.out.2 ⟨h17, hfit, fun h => by
    by_cases h6 : 6 < a
    · exact absurd ⟨h, h6⟩ hatt
    · omega⟩
  have hcase : ((c : Int) == 1) = false ∨ (((c : Int) == 1) = true ∧ ¬ 6 < a) := by
    by_cases h : c = 1
    · exact .inr ⟨by simp; omega, fun h6 => hatt ⟨h, h6⟩⟩
    · exact .inl (by simp; omega)
  clear hatt
  rcases hcase with hc1 | ⟨hc1, hc6⟩
  all_goals
    go_enter Tryz.func81, Tryz.ntmps81
    go_wp2_with (go_at_call 119; refine (lowestFirst_any _ hz8.out _).mono ?_; rintro e w' ⟨rfl, rfl⟩; rw [HL.out])
    refine bodyPost_ret (v := .tuple #[.agg #[.int .i64 c, .int .i64 a, .int .i64 ((p : Int) + 1 + n)], .bool true]) (by simp [results, Tryz.results81, go_sem]) rfl ?_
    exact ⟨box3 _ _, .inl ⟨HK.out, by rw [HM.out]; rfl⟩⟩

set_option maxHeartbeats 1000000 in
theorem Takes_any (o : Ins) (ho : o.op ≤ 17) (w : World) (hg : GlobP w) :
    Calls Tryz.prog 113 #[opV o] w fun e w' => e = .returned (.int .i64 (takesN o.op)) ∧ Below w.heap.size w w' := by
  have ct := hg.takes o.op (by omega)
  have hb := hg.size.2.1
  clear hg
  unfold opV
  go_enter Tryz.func113, Tryz.ntmps113
  go_wp2
  go_ret
  exact ⟨rfl, box3 _ _⟩
set_option maxHeartbeats 1000000 in
theorem Lays_any (o : Ins) (ho : o.op ≤ 17) (w : World) (hg : GlobP w) :
    Calls Tryz.prog 116 #[opV o] w fun e w' => e = .returned (.int .i64 (laysN o.op)) ∧ Below w.heap.size w w' := by
  have ct := hg.lays o.op (by omega)
  have hb := hg.size.2.2
  clear hg
  unfold opV
  go_enter Tryz.func116, Tryz.ntmps116
  go_wp2
  go_ret
  exact ⟨rfl, box3 _ _⟩
set_option maxHeartbeats 1000000 in
theorem Ends_any (o : Ins) (w : World) :
    Calls Tryz.prog 115 #[opV o] w fun e w' => e = .returned (.bool (((o.op : Int) == 16) || ((o.op : Int) == 17))) ∧ Below w.heap.size w w' := by
  unfold opV
  cases h : ((o.op : Int) == 16)
  all_goals
    go_enter Tryz.func115, Tryz.ntmps115
    go_wp2
    go_ret
    exact ⟨ret_bool (by simp [h]), box3 _ _⟩
set_option maxHeartbeats 1000000 in
theorem Jumps_any (o : Ins) (w : World) :
    Calls Tryz.prog 117 #[opV o] w fun e w' => e = .returned (.bool ((((o.op : Int) == 13) || ((o.op : Int) == 14)) || ((o.op : Int) == 15))) ∧ Below w.heap.size w w' := by
  unfold opV
  cases h : ((o.op : Int) == 13) <;> cases h2 : ((o.op : Int) == 14)
  all_goals
    go_enter Tryz.func117, Tryz.ntmps117
    go_wp2
    go_ret
    exact ⟨ret_bool (by simp [h, h2]), box3 _ _⟩
set_option maxHeartbeats 1000000 in
theorem Target_any (o : Ins) (h1 : 0 ≤ o.arg) (h2 : o.arg ≤ 65535) (h3 : o.next ≤ 100000) (w : World) :
    Calls Tryz.prog 118 #[opV o] w fun e w' => e = .returned (.int .i64 ((o.next : Int) + o.arg)) ∧ Below w.heap.size w w' := by
  unfold opV
  go_enter Tryz.func118, Tryz.ntmps118
  go_wp2
  go_ret
  exact ⟨rfl, box3 _ _⟩
end Go.Proofs.YtkbbdfeobcklhaaGreatDoor
