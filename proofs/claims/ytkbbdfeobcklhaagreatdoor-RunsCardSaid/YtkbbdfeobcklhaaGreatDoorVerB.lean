/-
  The document's Operations: of some bytes: the operations that stand there, or that there are none such.
-/
import Derived.Test.YtkbbdfeobcklhaaGreatDoorVerA
import Derived.Test.YtkbbdfeobcklhaaGreatDoorPure
set_option linter.unusedVariables false
set_option linter.unusedSimpArgs false
namespace Go.Proofs.YtkbbdfeobcklhaaGreatDoor
open Go.RowKit

theorem Tryz.infoIns : (Tryz.prog.info? 88).map (fun i => (i.zero, i.size, i.bytes)) = some (some (.agg #[.int .i64 0, .int .i64 0, .int .i64 0, .int .i64 0]), 4, 32) := by kernel_rfl
theorem ext_two (s : ByteArray) (h : 2 ≤ s.size) : ((s.extract 0 2).toList == [83, 76]) = decide (bt s 0 = 83 ∧ bt s 1 = 76) := by
  rw [extract_bsOf, bsOf_toList, bt_get s 0 (by omega), bt_get s 1 (by omega)]
  have h0 := getElem_toList s 0 (by omega)
  have h1 := getElem_toList s 1 (by omega)
  cases hl : s.toList with
  | nil => rw [hl] at h0; simp at h0
  | cons a r =>
    cases r with
    | nil => rw [hl] at h1; simp at h1
    | cons b r =>
      rw [hl] at h0 h1
      simp at h0 h1
      rw [← h0, ← h1, Bool.eq_iff_iff]
      simp [← UInt8.toNat_inj]
/-- No row of operations goes on from a place at which none begins. -/
theorem no_chain {s : ByteArray} {l : List Ins} {p : Nat} (hc : Chain s 3 l p) (hp : p < s.size) (hb : ¬ OpOkI s p) : ∀ l', ¬ Chain s 3 l' s.size := by
  intro l' h'
  obtain ⟨r, rfl, hr⟩ := hc.pre h'
  cases r with
  | nil => have : p = s.size := hr; omega
  | cons o r => exact hb hr.1
theorem ins_step {w wr w2 : World} {l : List Ins} {v v' : Value} {e : TypeId} {o : Obj} {i : Ins} (hbel : Below w.heap.size w wr)
    (hown2 : w2.ownsRow w.heap.size e 4 v' (l.length + 1) (cellsV l ++ [.int .i64 i.pos, .int .i64 i.op, .int .i64 i.arg, .int .i64 i.next])) (hg : (wr.alloc o).grownBy w2 v.ownBlock) (hown : wr.ownsRow w.heap.size e 4 v l.length (cellsV l)) :
    w2.ownsRow w.heap.size e 4 v' (l ++ [i]).length (cellsV (l ++ [i])) ∧ Below w.heap.size w w2 := by
  have hs1 := hbel.size
  refine ⟨?_, ?_⟩
  · rw [cellsV_snoc, List.length_append]
    exact hown2
  · exact (hbel.alloc (by omega) o).grown hg (by simp; omega) (fun k hk => (hown.lt k hk).1)
set_option maxHeartbeats 1600000 in
set_option maxRecDepth 100000 in
theorem Operations_any (s : ByteArray) (w : World) :
    Calls Tryz.prog 39 #[.string s] w fun e w' => Below w.heap.size w w' ∧
      ((HeadOk s ∧ ∃ l v, Chain s 3 l s.size ∧ l.length ≤ 4000 ∧ e = .returned (.tuple #[v, .bool true]) ∧ w'.ownsRow w.heap.size 88 4 v l.length (cellsV l)) ∨
       ((¬ HeadOk s ∨ ∀ l, ¬ Chain s 3 l s.size) ∧ e = .returned (.tuple #[.slice none 0 0, .bool false]))) := by
  obtain ⟨i0, hi, hz0, hz1, hz2⟩ := info_parts Tryz.infoIns
  by_cases hbig : 4000 < s.size
  · go_enter Tryz.func39, Tryz.ntmps39
    go_wp2
    go_ret2
    exact ⟨Below.refl _ _, .inr ⟨.inl (fun h => by have := h.2.1; omega), rfl⟩⟩
  by_cases hsm : s.size < 4
  · go_enter Tryz.func39, Tryz.ntmps39
    go_wp2
    go_ret2
    exact ⟨Below.refl _ _, .inr ⟨.inl (fun h => by have := h.1; omega), rfl⟩⟩
  have h2 : Hid (((s.extract 0 2).toList == [83, 76]) = decide (bt s 0 = 83 ∧ bt s 1 = 76)) := ext_two s (by omega)
  by_cases hsl : bt s 0 = 83 ∧ bt s 1 = 76
  case neg =>
    have h3 : ((s.extract 0 2).toList == [83, 76]) = false := by rw [h2.out]; simpa using hsl
    have HS : Hid (¬ (bt s 0 = 83 ∧ bt s 1 = 76)) := hsl
    clear hsl
    go_enter Tryz.func39, Tryz.ntmps39
    go_wp2
    go_ret2
    exact ⟨Below.refl _ _, .inr ⟨.inl (fun h => HS.out h.2.2), rfl⟩⟩
  have h3 : ((s.extract 0 2).toList == [83, 76]) = true := by rw [h2.out]; simpa using hsl
  have HH : Hid (HeadOk s) := (⟨by omega, by omega, hsl⟩ : HeadOk s)
  clear hsl h2
  go_enter Tryz.func39, Tryz.ntmps39
  go_wp2
  go_loopw [4, 5] (fun v i wr => ∃ (p : Nat) (l : List Ins), p ≤ s.size ∧ i = .int .i64 p ∧ wr.ownsRow w.heap.size 88 4 v l.length (cellsV l) ∧ l.length ≤ p ∧ Below w.heap.size w wr ∧ Chain s 3 l p) (fun _ i _ => s.size - (intOf i).toNat)
  case atStart => exact ⟨3, [], by omega, rfl, World.ownsRow_nil _ _ _ _, by simp, Below.refl _ _, rfl⟩
  case round =>
    obtain ⟨p, l, hp, rfl, hown, hlp, hbel, hch⟩ := hrel
    have HC : Hid (Chain s 3 l p) := hch
    clear hch
    by_cases hlt : p < s.size
    case neg =>
      go_wp2
      go_ret2
      have : p = s.size := by omega
      subst this
      exact ⟨hbel, .inl ⟨HH.out, l, _, HC.out, by omega, rfl, hown⟩⟩
    have HB : Hid (bt s p = s[p].toNat) := bt_get s p hlt
    obtain ⟨c, hc⟩ : ∃ c, c = s[p].toNat := ⟨_, rfl⟩
    have hc256 : c < 256 := by rw [hc]; exact UInt8.toNat_lt _
    obtain ⟨n, hn⟩ : ∃ n, n = behindN c := ⟨_, rfl⟩
    have hn8 : n ≤ 8 := by rw [hn]; unfold behindN; (repeat' split) <;> omega
    have hm : mkIns s p = ⟨p, c, IntKind.i64.wrap (lowU s (p + 1) n : Nat), p + 1 + n⟩ := by simp only [mkIns, HB.out, ← hc, ← hn]
    obtain ⟨a, ha⟩ : ∃ a, a = IntKind.i64.wrap (lowU s (p + 1) n : Nat) := ⟨_, rfl⟩
    have ha1 : c = 1 → a = bt s (p + 1) := by
      intro h
      have h1 : n = 1 := by rw [hn, h]; rfl
      rw [ha, h1, lowU_one]
      exact wrap_small _ (by have := bt_lt s (p + 1); omega)
    rw [← ha] at hm
    have hopk : OpOkI s p ↔ c ≤ 17 ∧ p + 1 + n ≤ s.size ∧ (c = 1 → a ≤ 6) := by
      unfold OpOkI
      rw [HB.out, ← hc, ← hn]
      constructor
      · rintro ⟨_, h1, h2, h3⟩
        exact ⟨h1, h2, fun h => by rw [ha1 h]; have := h3 h; omega⟩
      · rintro ⟨h1, h2, h3⟩
        exact ⟨hlt, h1, h2, fun h => by have := h3 h; rw [ha1 h] at this; omega⟩
    have HO : Hid (OpOkI s p ↔ c ≤ 17 ∧ p + 1 + n ≤ s.size ∧ (c = 1 → a ≤ 6)) := hopk
    have HM : Hid (mkIns s p = ⟨p, c, a, p + 1 + n⟩) := hm
    have HA : Hid (IntKind.i64.wrap (lowU s (p + 1) n : Nat) = a) := ha.symm
    have HN : Hid (behindN c = n) := hn.symm
    have hix := fun wx => run_index_nat (P := Tryz.prog) wx 9 s .i64 (p : Int) p Tryz.underlying9 rfl hlt
    rw [← hc] at hix
    clear hopk hm ha hn ha1 HB hc
    by_cases h17 : c ≤ 17
    case neg =>
      go_wp2_with (go_at_call 76; refine (behindOp_any c _).mono ?_; rintro e w' ⟨rfl, rfl⟩; rw [HN.out])
      go_ret2
      exact ⟨hbel, .inr ⟨.inr (no_chain HC.out hlt (fun h => h17 (HO.out.1 h).1)), rfl⟩⟩
    by_cases hfit : p + 1 + n ≤ s.size
    case neg =>
      go_wp2_with (go_at_call 76; refine (behindOp_any c _).mono ?_; rintro e w' ⟨rfl, rfl⟩; rw [HN.out])
      go_ret2
      exact ⟨hbel, .inr ⟨.inr (no_chain HC.out hlt (fun h => hfit (HO.out.1 h).2.1)), rfl⟩⟩
    by_cases hatt : c = 1 ∧ 6 < a
    · obtain ⟨h1, h6⟩ := hatt
      have HX : Hid (c = 1) := h1
      have hcb : ((c : Int) == 1) = true := by simp; omega
      clear h1
      go_wp2_with (first | (go_at_call 76; refine (behindOp_any c _).mono ?_; rintro e w' ⟨rfl, rfl⟩; rw [HN.out]) | (go_at_call 77; refine (low_any s (p + 1) n (by omega) (by omega) _).mono ?_; rintro e w' ⟨rfl, rfl⟩; rw [HA.out]))
      go_ret2
      exact ⟨hbel, .inr ⟨.inr (no_chain HC.out hlt (fun h => by have := (HO.out.1 h).2.2 HX.out; omega)), rfl⟩⟩
    have HK : Hid (OpOkI s p) := HO.out.2 ⟨h17, hfit, fun h => by
      by_cases h6 : 6 < a
      · exact absurd ⟨h, h6⟩ hatt
      · omega⟩
    have hcase : ((c : Int) == 1) = false ∨ (((c : Int) == 1) = true ∧ ¬ 6 < a) := by
      by_cases h : c = 1
      · exact .inr ⟨by simp; omega, fun h6 => hatt ⟨h, h6⟩⟩
      · exact .inl (by simp; omega)
    clear hatt
    rcases hcase with hc1 | ⟨hc1, hc6⟩
    all_goals
      go_wp2_with (first | (go_at_call 76; refine (behindOp_any c _).mono ?_; rintro e w' ⟨rfl, rfl⟩; rw [HN.out]) | (go_at_call 77; refine (low_any s (p + 1) n (by omega) (by omega) _).mono ?_; rintro e w' ⟨rfl, rfl⟩; rw [HA.out]) | (at_builtin; refine wpList_append_own _ rfl _ _ 48 rfl w.heap.size 88 i0 (.agg #[.int .i64 0, .int .i64 0, .int .i64 0, .int .i64 0]) 4 32 Tryz.underlying48 hi hz0 hz1 hz2 rfl (by decide) _ _ _ rfl (hown.alloc _) ⟨_, 0, none⟩ 1 1 [.int .i64 p, .int .i64 c, .int .i64 a, .int .i64 ((p : Int) + 1 + n)] rfl rfl (cell_four _ _ _ _ _ _) one_int4 (by unfold maxLen; omega) (by omega) (by have := hbel.size; simp; omega) ?_; intro v' w2 hown2 hgrow2 _))
      have R := ins_step (i := ⟨p, c, a, p + 1 + n⟩) hbel hown2 hgrow2 hown
      clear hown2 hgrow2 hown
      go_wp2
      go_roundw
      case rel => exact ⟨p + 1 + n, l ++ [⟨p, c, a, p + 1 + n⟩], hfit, by go_num, R.1, by simp; omega, R.2, by have := HC.out.snoc HK.out; rw [HM.out] at this; exact this⟩
      case measure => simp [intOf]; omega
end Go.Proofs.YtkbbdfeobcklhaaGreatDoor
