/-
  The document's Tokened, called in any world: the tokens of a text that is a policy, or the error and its place.
  The document's binds and root, called in any world on tokens that can be read.
  The document's root, called in any world on tokens that can be read: the operator that is worked out last.
  The document's inside and one, called on the tokens of a tree: its brackets fall away; is it an operator of one operand?
  The document's made, leafKind and known, called in any world.
-/
import Derived.Test.YtblfeahabbghmaaGreatDoorML
import Derived.Test.YtblfeahabbghmaaGreatDoorMA
set_option linter.unusedVariables false
set_option linter.unusedSimpArgs false
namespace Go.Proofs.YtblfeahabbghmaaGreatDoor
open Go.RowKit

theorem cellsR_get : ∀ (l : List RTok) (k : Nat) (h : k < l.length), (cellsR l)[k * 2]? = some (.string (bsOf l[k].text)) ∧ (cellsR l)[k * 2 + 1]? = some (.int .i64 l[k].at')
  | a :: r, 0, _ => ⟨rfl, rfl⟩
  | a :: r, k + 1, h => by
    have := cellsR_get r k (by simpa using h)
    have e : cellsR (a :: r) = .string (bsOf a.text) :: .int .i64 a.at' :: cellsR r := rfl
    rw [e, show (k + 1) * 2 = k * 2 + 2 by omega, show k * 2 + 2 + 1 = (k * 2 + 1) + 2 by omega]
    simpa using this

theorem tokened_err {s : ByteArray} (hs : s.size ≤ 400) {p : Nat} (h : toksR s.toList 0 = .error p) : tokened s.toList = .bad 2 p := by
  unfold tokened; rw [toList_length, if_neg (by omega), h]
theorem tokened_syn {s : ByteArray} (hs : s.size ≤ 400) {l : List RTok} (h : toksR s.toList 0 = .ok l) {p : Nat} (hg : goS ⟨0, 0, 0⟩ l = .error p) : tokened s.toList = .bad 3 p := by
  unfold tokened; rw [toList_length, if_neg (by omega), h]; simp only [hg]
theorem tokened_end {s : ByteArray} (hs : s.size ≤ 400) {l : List RTok} (h : toksR s.toList 0 = .ok l) {q : Spot} (hg : goS ⟨0, 0, 0⟩ l = .ok q) (hq : q.next ≠ 6) : tokened s.toList = .bad 3 s.size := by
  unfold tokened; rw [toList_length, if_neg (by omega), h]; simp only [hg, if_neg hq]
theorem fine_tokened {s : ByteArray} (hs : s.size ≤ 400) {l : List RTok} (h : toksR s.toList 0 = .ok l) {q : Spot} (hg : goS ⟨0, 0, 0⟩ l = .ok q) (hq : q.next = 6) : tokened s.toList = .fine l := by
  unfold tokened; rw [toList_length, if_neg (by omega), h]; simp only [hg, if_pos hq]
def TokedRel (l : List RTok) (sb : Nat) (W : World) (i : Value) (wr : World) : Prop :=
  ∃ (k : Nat) (q : Spot), k ≤ l.length ∧ i = .int .i64 k ∧ SpotAt wr sb q ∧ q.opn ≤ 8 ∧ q.expr ≤ 2 ∧ q.next ≤ 6 ∧ Below sb W wr ∧ goS ⟨0, 0, 0⟩ l = goS q (l.drop k)

set_option maxHeartbeats 1000000 in
theorem Tokened_any (s : ByteArray) (w : World) :
    Calls Tryz.prog 102 #[.string s] w fun e w' => Below w.heap.size w w' ∧
      ((∃ l v, tokened s.toList = .fine l ∧ l.length ≤ 400 ∧ e = .returned (.tuple #[v, .int .i64 0, .int .i64 0]) ∧ w'.ownsRow w.heap.size 171 2 v l.length (cellsR l)) ∨
       (∃ c p, tokened s.toList = .bad c p ∧ e = .returned (.tuple #[.slice none 0 0, .int .i64 c, .int .i64 p]))) := by
  by_cases hs : s.size ≤ 400
  · go_enter Tryz.func102, Tryz.ntmps102
    go_wp2_with (go_at_call 147; refine (Tokens_any s hs _).mono ?_; rintro e w1 ⟨hb1, ⟨l, v, htk, hl4, rfl, hown⟩ | ⟨p, htk, rfl⟩⟩)
    · have HT : Hid (toksR s.toList 0 = .ok l) := htk
      have hne := toks_nonempty htk
      clear htk
      have hbs := hb1.size
      have HW : Hid (w1.ownsRow w.heap.size 171 2 v l.length (cellsR l)) := hown
      have hrd := reads_of_own hown
      clear hown
      rcases hrd with ⟨rfl, hn, hx⟩ | ⟨g, o, cap, rfl, _, hlt, hc⟩
      · have hl0 : l = [] := List.eq_nil_of_length_eq_zero hn
        subst hl0
        refine wp_loop_rounds 1 ?_; rw [rounds_succ]
        go_wp2
        go_ret3
        exact ⟨hb1.alloc hbs _, .inr ⟨3, s.size, tokened_end hs HT.out (q := ⟨0, 0, 0⟩) rfl (by decide), rfl⟩⟩
      · have hsp0 : SpotAt (w1.alloc (.cells (spotCells ⟨0, 0, 0⟩) 219)) w1.heap.size ⟨0, 0, 0⟩ := Blk.new _ _ _
        have hbW : Below w.heap.size w (w1.alloc (.cells (spotCells ⟨0, 0, 0⟩) 219)) := hb1.alloc hbs _
        have hc2 : ∀ j u, (cellsR l)[j]? = some u → (w1.alloc (.cells (spotCells ⟨0, 0, 0⟩) 219)).cell? ⟨g, o + j, none⟩ = some u := fun j u hj => (((Below.refl _ w1).alloc (Nat.le_refl _) _).cell (p := ⟨g, o + j, none⟩) hlt).trans (hc j u hj)
        clear hc
        go_loopw [8] (fun i wr => TokedRel l w1.heap.size (w1.alloc (.cells (spotCells ⟨0, 0, 0⟩) 219)) i wr) (fun i _ => l.length - (intOf i).toNat)
        case atStart => exact ⟨0, ⟨0, 0, 0⟩, Nat.zero_le _, rfl, hsp0, by decide, by decide, by decide, Below.refl _ _, rfl⟩
        case round =>
          obtain ⟨k, q, hk, rfl, hsp, hq1, hq2, hq3, hbr, hgo⟩ := hrel
          have HG : Hid (goS ⟨0, 0, 0⟩ l = goS q (l.drop k)) := hgo
          clear hgo
          by_cases hkl : k < l.length
          · have hcell := cellsR_get l k hkl
            have c0 : wr.cell? ⟨g, o + k * 2, none⟩ = some (.string (bsOf l[k].text)) := (hbr.cell (p := ⟨g, o + k * 2, none⟩) hlt).trans (hc2 _ _ hcell.1)
            have c1 : wr.cell? ⟨g, o + k * 2 + 1, none⟩ = some (.int .i64 l[k].at') := (hbr.cell (p := ⟨g, o + k * 2 + 1, none⟩) hlt).trans (hc2 _ _ hcell.2)
            have hz : Hid (0 < (bsOf l[k].text).size) := (by rw [bsOf_size]; exact List.length_pos_iff.2 (hne _ (List.getElem_mem hkl)) : 0 < (bsOf l[k].text).size)
            clear hcell
            have hst : Hid (goS ⟨0, 0, 0⟩ l = if (stepS q l[k].text).2 then goS (stepS q l[k].text).1 (l.drop (k + 1)) else .error l[k].at') := (by rw [HG.out, List.drop_eq_getElem_cons hkl]; rfl : goS ⟨0, 0, 0⟩ l = _)
            cases hr : (stepS q l[k].text).2
            · go_wp2_with (go_at_call 148; refine (step_any _ q _ hz.out hq1 hq2 hq3 _ hsp).mono ?_; rintro e w2 ⟨rfl, hs2, hb2⟩; simp only [bsOf_toList] at hs2 ⊢; have c2 := (hb2.cell (p := ⟨g, o + k * 2 + 1, none⟩) hlt).trans c1)
              go_quiet (fail)
              go_wp2
              go_ret3
              refine ⟨?_, .inr ⟨3, l[k].at', tokened_syn hs HT.out ?_, rfl⟩⟩
              · exact below_drewN ((hbW.trans (hbr.mono hbs)).trans (hb2.mono hbs)) _
              · rw [hst.out]; simp [hr]
            · have HRr : Hid ((stepS q l[k].text).2 = true) := hr
              go_wp2_with (go_at_call 148; refine (step_any _ q _ hz.out hq1 hq2 hq3 _ hsp).mono ?_; rintro e w2 ⟨rfl, hs2, hb2⟩; simp only [bsOf_toList] at hs2 ⊢)
              go_roundw
              case rel => exact ⟨k + 1, (stepS q l[k].text).1, by omega, by go_num, hs2, stepS_open q _ hq1 HRr.out, stepS_expr q _ hq2, stepS_next q _ hq3, hbr.trans hb2, by rw [hst.out, if_pos HRr.out]⟩
              case measure => simp [intOf]; omega
          · have HP : Hid (SpotAt wr w1.heap.size q) := hsp
            have c0 := hsp.facts.1.1
            clear hsp
            have hgo2 : Hid (goS ⟨0, 0, 0⟩ l = .ok q) := (by rw [HG.out, List.drop_eq_nil_of_le (by omega)]; rfl : goS ⟨0, 0, 0⟩ l = .ok q)
            by_cases h6 : q.next = 6
            · rw [h6] at c0
              go_wp2
              go_ret3
              exact ⟨hbW.trans (hbr.mono hbs), .inl ⟨l, _, fine_tokened hs HT.out hgo2.out h6, hl4, rfl, own_belowB (own_below HW.out ((Below.refl _ w1).alloc (Nat.le_refl _) _)) hbr (by intro k hk; simp [Value.ownBlock] at hk; omega)⟩⟩
            · go_wp2
              go_ret3
              exact ⟨hbW.trans (hbr.mono hbs), .inr ⟨3, s.size, tokened_end hs HT.out hgo2.out h6, rfl⟩⟩
    · go_ret3
      exact ⟨hb1, .inr ⟨2, p, tokened_err hs htk, rfl⟩⟩
  · have hT : tokened s.toList = .bad 1 0 := by unfold tokened; rw [toList_length, if_pos (by omega)]
    go_enter Tryz.func102, Tryz.ntmps102
    go_wp2
    go_ret3
    exact ⟨Below.refl _ _, .inr ⟨1, 0, hT, rfl⟩⟩
end Go.Proofs.YtblfeahabbghmaaGreatDoor

set_option linter.unusedVariables false
set_option linter.unusedSimpArgs false
namespace Go.Proofs.YtblfeahabbghmaaGreatDoor
open Go.RowKit

set_option maxHeartbeats 1000000 in
theorem binds_any (t : ByteArray) (w : World) :
    Calls Tryz.prog 214 #[.string t] w fun e w' => e = .returned (.int .i64 (bindsT t.toList)) ∧ w' = w := by
  go_enter Tryz.func214, Tryz.ntmps214
  go_wp2
  all_goals go_ret
  all_goals exact ⟨ret_int (by simp_all [bindsT, cOr, cAnd, cEq, cNeq, cLess, cMost, cPlus, cMinus, cTimes, cDiv, cMod]), rfl⟩
end Go.Proofs.YtblfeahabbghmaaGreatDoor

set_option linter.unusedVariables false
set_option linter.unusedSimpArgs false
namespace Go.Proofs.YtblfeahabbghmaaGreatDoor
open Go.RowKit

def BestOk (l : List RTok) (k : Nat) (best : Int) (bb : Nat) : Prop := best = -1 ∨ ∃ m : Nat, ∃ h : m < l.length, best = m ∧ m < k ∧ bindsT (l[m]).text = bb
def RootRel (l : List RTok) (sb so sw si : Value) : Prop :=
  ∃ (k : Nat) (best : Int) (bb : Nat) (op : Int) (wants : Bool), k ≤ l.length ∧ si = .int .i64 k ∧ sb = .int .i64 best ∧ so = .int .i64 op ∧ sw = .bool wants ∧ BestOk l k best bb ∧ -(k : Int) ≤ op ∧ op ≤ k ∧ rootR l = rootGo k best bb op wants (l.drop k)
theorem BestOk.mono {l : List RTok} {k : Nat} {best : Int} {bb : Nat} (h : BestOk l k best bb) : BestOk l (k + 1) best bb := by
  rcases h with h | ⟨m, hm, e, hk, hb⟩
  · exact .inl h
  · exact .inr ⟨m, hm, e, by omega, hb⟩
theorem rg_open {k : Nat} {best : Int} {bb : Nat} {op : Int} {wants : Bool} {t : RTok} {r : List RTok} (h : (t.text == cOpen) = true) :
    rootGo k best bb op wants (t :: r) = rootGo (k + 1) best bb (op + 1) true r := by simp only [rootGo, h, if_true]
theorem rg_close {k : Nat} {best : Int} {bb : Nat} {op : Int} {wants : Bool} {t : RTok} {r : List RTok} (h : (t.text == cOpen) = false) (h2 : (t.text == cClose) = true) :
    rootGo k best bb op wants (t :: r) = rootGo (k + 1) best bb (op - 1) false r := by simp [rootGo, h, h2]
theorem rg_un {k : Nat} {best : Int} {bb : Nat} {op : Int} {t : RTok} {r : List RTok} (h : (t.text == cOpen) = false) (h2 : (t.text == cClose) = false) (h3 : unT t.text = true) :
    rootGo k best bb op true (t :: r) = rootGo (k + 1) best bb op true r := by simp [rootGo, h, h2, h3]
theorem rg_op {k : Nat} {best : Int} {bb : Nat} {op : Int} {wants : Bool} {t : RTok} {r : List RTok} (h : (t.text == cOpen) = false) (h2 : (t.text == cClose) = false) (h3 : (wants && unT t.text) = false) (h4 : 0 < bindsT t.text) (h5 : op = 0 ∧ (best < 0 ∨ bindsT t.text ≤ bb)) :
    rootGo k best bb op wants (t :: r) = rootGo (k + 1) k (bindsT t.text) op true r := by simp only [rootGo, h, h2, h3]; rw [if_neg (by simp), if_neg (by simp), if_neg (by simp), if_pos h4, if_pos h5]
theorem rg_no {k : Nat} {best : Int} {bb : Nat} {op : Int} {wants : Bool} {t : RTok} {r : List RTok} (h : (t.text == cOpen) = false) (h2 : (t.text == cClose) = false) (h3 : (wants && unT t.text) = false) (h4 : 0 < bindsT t.text) (h5 : ¬ (op = 0 ∧ (best < 0 ∨ bindsT t.text ≤ bb))) :
    rootGo k best bb op wants (t :: r) = rootGo (k + 1) best bb op true r := by simp only [rootGo, h, h2, h3]; rw [if_neg (by simp), if_neg (by simp), if_neg (by simp), if_pos h4, if_neg h5]
theorem rg_leaf {k : Nat} {best : Int} {bb : Nat} {op : Int} {wants : Bool} {t : RTok} {r : List RTok} (h : (t.text == cOpen) = false) (h2 : (t.text == cClose) = false) (h3 : (wants && unT t.text) = false) (h4 : bindsT t.text = 0) :
    rootGo k best bb op wants (t :: r) = rootGo (k + 1) best bb op false r := by simp only [rootGo, h, h2, h3, h4]; simp

set_option maxHeartbeats 2000000 in
set_option maxRecDepth 10000 in
theorem root_any (l : List RTok) (v : Value) (w : World) (hl : 0 < l.length) (hl4 : l.length ≤ 400) (hv : Reads w v l.length (cellsR l)) :
    Calls Tryz.prog 191 #[v] w fun e w' => e = .returned (.int .i64 (rootR l)) ∧ w' = w := by
  rcases hv with ⟨_, hn, _⟩ | ⟨g, o, cap, rfl, _, hlt, hc⟩
  · omega
  go_enter Tryz.func191, Tryz.ntmps191
  go_wp2
  go_loop [3, 4, 5, 6] (fun sb so sw si => RootRel l sb so sw si) (fun _ _ _ i => l.length - (intOf i).toNat)
  case atStart => exact ⟨0, -1, 0, 0, true, Nat.zero_le _, rfl, rfl, rfl, rfl, .inl rfl, by omega, by omega, rfl⟩
  case round =>
    obtain ⟨k, best, bb, op, wants, hk, rfl, rfl, rfl, rfl, hbest, ho1, ho2, hroot⟩ := hrel
    by_cases hkl : k < l.length
    · have hcell : w.cell? ⟨g, o + k * 2, none⟩ = some (.string (bsOf l[k].text)) := hc _ _ (cellsR_get l k hkl).1
      have HR : Hid (rootR l = rootGo k best bb op wants (l[k] :: l.drop (k + 1))) := (by rw [hroot, List.drop_eq_getElem_cons hkl] : rootR l = _)
      have HB : Hid (BestOk l k best bb) := hbest
      have HC : Hid (∀ j u, (cellsR l)[j]? = some u → w.cell? ⟨g, o + j, none⟩ = some u) := hc
      clear hroot hbest hc
      obtain ⟨c, hc⟩ : ∃ c, c = bsOf l[k].text := ⟨_, rfl⟩
      rw [← hc] at hcell
      have ht : c.toList = l[k].text := by rw [hc, bsOf_toList]
      clear hc
      have hbt := bindsT_le c.toList
      have HT : Hid (l[k].text = c.toList) := ht.symm
      clear ht
      have hb1 : Hid (∀ x, (c.toList == x) = (l[k].text == x)) := (by rw [HT.out]; exact fun _ => rfl : ∀ x, (c.toList == x) = (l[k].text == x))
      cases h1 : (c.toList == [40])
      · have g1 : Hid ((l[k].text == cOpen) = false) := (by rw [← hb1.out]; exact h1 : (l[k].text == cOpen) = false)
        cases h2 : (c.toList == [41])
        · have g2 : Hid ((l[k].text == cClose) = false) := (by rw [← hb1.out]; exact h2 : (l[k].text == cClose) = false)
          have hun : Hid ((unT l[k].text) = ((c.toList == [45]) || (c.toList == [110, 111, 116]))) := (by rw [HT.out]; rfl : unT l[k].text = ((c.toList == [45]) || (c.toList == [110, 111, 116])))
          have hbin : Hid (bindsT l[k].text = bindsT c.toList) := (by rw [HT.out] : bindsT l[k].text = bindsT c.toList)
          have fin : ∀ (x y : Bool), (c.toList == [45]) = x → (c.toList == [110, 111, 116]) = y → wants = false ∨ (wants = true ∧ x = false ∧ y = false) → (wants && unT l[k].text) = false := by
            intro x y hx hy h
            rw [hun.out, hx, hy]
            rcases h with h | ⟨_, h, h'⟩
            · simp [h]
            · simp [h, h']
          have FIN : Hid _ := fin
          clear fin
          have main : ∀ (x y : Bool), (c.toList == [45]) = x → (c.toList == [110, 111, 116]) = y → (wants = false ∨ (wants = true ∧ x = false ∧ y = false)) ∨ (wants = true ∧ (x = true ∨ (x = false ∧ y = true))) := by
            intro x y _ _
            cases wants <;> cases x <;> cases y <;> simp
          rcases main _ _ rfl rfl with hw | ⟨rfl, hw⟩
          · have F3 : Hid ((wants && unT l[k].text) = false) := FIN.out _ _ rfl rfl hw
            clear FIN
            rcases hw with rfl | ⟨rfl, h3, h4⟩
            all_goals
              by_cases hb0 : bindsT c.toList = 0
              · go_wp2_with (go_at_call 214; refine (binds_any _ _).mono ?_; rintro e _ ⟨rfl, rfl⟩)
                go_round
                case rel => exact ⟨k + 1, best, bb, op, false, by omega, by go_num, rfl, rfl, rfl, HB.out.mono, by omega, by omega, by rw [HR.out]; exact rg_leaf g1.out g2.out F3.out (by rw [hbin.out]; exact hb0)⟩
                case measure => simp [intOf]; omega
              · have hbp : 0 < bindsT c.toList := by omega
                have hbp' : (0 : Int) < bindsT c.toList := by omega
                by_cases hop : op = 0
                · subst hop
                  rcases HB.out with rfl | ⟨m, hm, rfl, hmk, hmb⟩
                  · go_wp2_with (go_at_call 214; refine (binds_any _ _).mono ?_; rintro e _ ⟨rfl, rfl⟩)
                    go_round
                    case rel => exact ⟨k + 1, k, bindsT c.toList, 0, true, by omega, by go_num, rfl, rfl, rfl, .inr ⟨k, hkl, rfl, by omega, hbin.out⟩, by omega, by omega, by rw [HR.out, ← hbin.out]; exact rg_op g1.out g2.out F3.out (by rw [hbin.out]; exact hbp) ⟨rfl, .inl (by decide)⟩⟩
                    case measure => simp [intOf]; omega
                  · have cm : w.cell? ⟨g, o + m * 2, none⟩ = some (.string (bsOf l[m].text)) := HC.out _ _ (cellsR_get l m hm).1
                    have hbm : bindsT (bsOf l[m].text).toList = bb := by rw [bsOf_toList]; exact hmb
                    have HM : Hid (bindsT l[m].text = bb) := hmb
                    clear hmb
                    by_cases hle : bindsT c.toList ≤ bb
                    · go_wp2_with (go_at_call 214; refine (binds_any _ _).mono ?_; rintro e _ ⟨rfl, rfl⟩)
                      go_round
                      case rel => exact ⟨k + 1, k, bindsT c.toList, 0, true, by omega, by go_num, rfl, rfl, rfl, .inr ⟨k, hkl, rfl, by omega, hbin.out⟩, by omega, by omega, by rw [HR.out, ← hbin.out]; exact rg_op g1.out g2.out F3.out (by rw [hbin.out]; exact hbp) ⟨rfl, .inr (by rw [hbin.out]; exact hle)⟩⟩
                      case measure => simp [intOf]; omega
                    · go_wp2_with (go_at_call 214; refine (binds_any _ _).mono ?_; rintro e _ ⟨rfl, rfl⟩)
                      go_round
                      case rel => exact ⟨k + 1, m, bb, 0, true, by omega, by go_num, rfl, rfl, rfl, .inr ⟨m, hm, rfl, by omega, HM.out⟩, by omega, by omega, by rw [HR.out]; exact rg_no g1.out g2.out F3.out (by rw [hbin.out]; exact hbp) (by rw [hbin.out]; omega)⟩
                      case measure => simp [intOf]; omega
                · go_wp2_with (go_at_call 214; refine (binds_any _ _).mono ?_; rintro e _ ⟨rfl, rfl⟩)
                  go_round
                  case rel => exact ⟨k + 1, best, bb, op, true, by omega, by go_num, rfl, rfl, rfl, HB.out.mono, by omega, by omega, by rw [HR.out]; exact rg_no g1.out g2.out F3.out (by rw [hbin.out]; exact hbp) (fun h => hop h.1)⟩
                  case measure => simp [intOf]; omega
          · rcases hw with h3 | ⟨h3, h4⟩
            · go_wp2_with (go_at_call 214; refine (binds_any _ _).mono ?_; rintro e _ ⟨rfl, rfl⟩)
              go_round
              case rel => exact ⟨k + 1, best, bb, op, true, by omega, by go_num, rfl, rfl, rfl, HB.out.mono, by omega, by omega, by rw [HR.out]; exact rg_un g1.out g2.out (by rw [hun.out]; simp [h3])⟩
              case measure => simp [intOf]; omega
            · go_wp2_with (go_at_call 214; refine (binds_any _ _).mono ?_; rintro e _ ⟨rfl, rfl⟩)
              go_round
              case rel => exact ⟨k + 1, best, bb, op, true, by omega, by go_num, rfl, rfl, rfl, HB.out.mono, by omega, by omega, by rw [HR.out]; exact rg_un g1.out g2.out (by rw [hun.out]; simp [h4])⟩
              case measure => simp [intOf]; omega
        · have g2 : Hid ((l[k].text == cClose) = true) := (by rw [← hb1.out]; exact h2 : (l[k].text == cClose) = true)
          go_wp2_with (go_at_call 214; refine (binds_any _ _).mono ?_; rintro e _ ⟨rfl, rfl⟩)
          go_round
          case rel => exact ⟨k + 1, best, bb, op - 1, false, by omega, by go_num, rfl, rfl, rfl, HB.out.mono, by omega, by omega, by rw [HR.out]; exact rg_close g1.out g2.out⟩
          case measure => simp [intOf]; omega
      · have g1 : Hid ((l[k].text == cOpen) = true) := (by rw [← hb1.out]; exact h1 : (l[k].text == cOpen) = true)
        go_wp2_with (go_at_call 214; refine (binds_any _ _).mono ?_; rintro e _ ⟨rfl, rfl⟩)
        go_round
        case rel => exact ⟨k + 1, best, bb, op + 1, true, by omega, by go_num, rfl, rfl, rfl, HB.out.mono, by omega, by omega, by rw [HR.out]; exact rg_open g1.out⟩
        case measure => simp [intOf]; omega
    · go_wp2
      go_ret
      exact ⟨ret_int (by rw [List.drop_eq_nil_of_le (by omega)]; rfl), rfl⟩
end Go.Proofs.YtblfeahabbghmaaGreatDoor

set_option linter.unusedVariables false
set_option linter.unusedSimpArgs false
namespace Go.Proofs.YtblfeahabbghmaaGreatDoor
open Go.RowKit Go.Deep

theorem Tryz.szTok (w : World) : (sizeOf 171).run Tryz.prog w = .ok 2 w := by kernel_rfl
theorem Tryz.elTok : Tryz.prog.elem 162 = 171 := by kernel_rfl
theorem sl_lh (g o n cap lo hi : Nat) (L H : Int) (hL : L = lo) (hH : H = hi) (h1 : lo ≤ hi) (h2 : hi ≤ cap) (h3 : lo < cap) (wx : World) :
    (Instr.slice 162 (.slice (some ⟨g, o, none⟩) n cap) (some (.int .i64 L)) (some (.int .i64 H)) none).run Tryz.prog wx = .ok (.slice (some ⟨g, o + lo * 2, none⟩) (hi - lo) (cap - lo)) wx := by
  subst hL hH
  rw [run_slice_lh wx _ _ _ _ (by rw [Tryz.elTok]; exact Tryz.underlying162) .i64 .i64 _ _ (by omega) (by omega) (by omega), Tryz.elTok, Tryz.szTok]
  simp [Result.andThen, sliced, Addr.add, show cap ≠ lo by omega]
theorem sl_h (g o n cap hi : Nat) (H : Int) (hH : H = hi) (h2 : hi ≤ cap) (h3 : 0 < cap) (wx : World) :
    (Instr.slice 162 (.slice (some ⟨g, o, none⟩) n cap) none (some (.int .i64 H)) none).run Tryz.prog wx = .ok (.slice (some ⟨g, o, none⟩) hi cap) wx := by
  subst hH
  rw [run_slice_h wx _ _ _ _ (by rw [Tryz.elTok]; exact Tryz.underlying162) .i64 _ (by omega) (by omega), Tryz.elTok, Tryz.szTok]
  simp [Result.andThen, sliced, Addr.add, show cap ≠ 0 by omega]
theorem sl_l (g o n cap lo : Nat) (L : Int) (hL : L = lo) (h1 : lo ≤ n) (h3 : lo < cap) (wx : World) :
    (Instr.slice 162 (.slice (some ⟨g, o, none⟩) n cap) (some (.int .i64 L)) none none).run Tryz.prog wx = .ok (.slice (some ⟨g, o + lo * 2, none⟩) (n - lo) (cap - lo)) wx := by
  subst hL
  rw [run_slice_l wx _ _ _ _ (by rw [Tryz.elTok]; exact Tryz.underlying162) .i64 _ (by omega) (by omega), Tryz.elTok, Tryz.szTok]
  simp [Result.andThen, sliced, Addr.add, show cap ≠ lo by omega]

theorem cellsR_append (a b : List RTok) : cellsR (a ++ b) = cellsR a ++ cellsR b := by simp [cellsR]
/-- The tokens in the middle, where all can be read. -/
theorem reads_mid {w : World} {g o cap : Nat} {l : List RTok} (a b c : List RTok) (hl : l = a ++ b ++ c) (hg : g < w.heap.size) (hcap : b.length ≤ cap)
    (hc : ∀ j u, (cellsR l)[j]? = some u → w.cell? ⟨g, o + j, none⟩ = some u) : Reads w (.slice (some ⟨g, o + a.length * 2, none⟩) b.length cap) b.length (cellsR b) := by
  refine .inr ⟨g, _, cap, rfl, hcap, hg, fun j u hj => ?_⟩
  rw [Nat.add_assoc]
  apply hc
  subst hl
  have hlen := cellsR_length a
  have hj' := (List.getElem?_eq_some_iff.1 hj).1
  rw [cellsR_append, cellsR_append, List.append_assoc, List.getElem?_append_right (by omega), hlen, Nat.add_sub_cancel_left, List.getElem?_append_left hj']
  exact hj

def stripB : BT (RTok × RTok) → BT (RTok × RTok)
  | .node 3 _ _ e _ => stripB e
  | .node b o a l r => .node b o a l r
  | .nil => .nil
def Tr.strip (t : Tr) : Tr := stripB t
theorem Tr.strip_leaf (a : RTok) : (Tr.leaf a).strip = .leaf a := rfl
theorem Tr.strip_un (op : RTok) (e : Tr) : (Tr.un op e).strip = .un op e := rfl
theorem Tr.strip_bin (op : RTok) (l r : Tr) : (Tr.bin op l r).strip = .bin op l r := rfl
theorem Tr.strip_par (o : RTok) (e : Tr) (c : RTok) : (Tr.par o e c).strip = e.strip := rfl
def lenOf : Value → Nat | .slice _ n _ => n | _ => 0
theorem Tr.first_open (t : Tr) (h : t.wf) (hb : t.isBin = false) (hp : ∀ o e c, t ≠ .par o e c) (h0 : 0 < t.toks.length) : (t.toks[0].text == cOpen) = false := by
  rcases t.cases h with ⟨a, rfl⟩ | ⟨op, e, rfl⟩ | ⟨op, l, r, rfl⟩ | ⟨o, e, c, rfl⟩
  · have := (Tr.wf_leaf h).2.1
    show (a.text == cOpen) = false
    simpa using this
  · have h1 := (Tr.wf_un h).1
    unfold unT at h1
    simp at h1
    show (op.text == cOpen) = false
    rcases h1 with h1 | h1 <;> rw [h1] <;> decide
  · cases hb
  · exact absurd rfl (hp o e c)

theorem strip_self (t : Tr) (h : t.wf) (hp : ¬ ∃ o e c, t = .par o e c) : t.strip = t := by
  rcases t.cases h with ⟨a, rfl⟩ | ⟨op, e, rfl⟩ | ⟨op, l, r, rfl⟩ | ⟨o, e, c, rfl⟩
  · rfl
  · rfl
  · rfl
  · exact absurd ⟨o, e, c, rfl⟩ hp
set_option maxHeartbeats 1000000 in
theorem inside_any (t : Tr) (ht : t.wf) (v : Value) (w : World) (hl4 : t.toks.length ≤ 400) (hv : Reads w v t.toks.length (cellsR t.toks)) :
    Calls Tryz.prog 190 #[v] w fun e w' => (∃ v', e = .returned v' ∧ Reads w v' t.strip.toks.length (cellsR t.strip.toks)) ∧ w' = w := by
  go_enter Tryz.func190, Tryz.ntmps190
  go_wp2
  go_loop [0] (fun x => ∃ t' : Tr, t'.wf ∧ t'.strip = t.strip ∧ t'.toks.length ≤ 400 ∧ Reads w x t'.toks.length (cellsR t'.toks)) (fun x => lenOf x)
  case atStart => exact ⟨t, ht, rfl, hl4, hv⟩
  case round =>
    obtain ⟨t', hw', hs', h4', hr'⟩ := hrel
    have HR : Hid (Reads w u0 t'.toks.length (cellsR t'.toks)) := hr'
    have HS : Hid (t'.strip = t.strip) := hs'
    clear hs'
    have hpos := t'.toks_pos
    rcases hr' with ⟨_, hn, _⟩ | ⟨g, o, cap, rfl, hncap, hlt, hc⟩
    · omega
    have HC : Hid (∀ j u, (cellsR t'.toks)[j]? = some u → w.cell? ⟨g, o + j, none⟩ = some u) := hc
    have c0 : w.cell? ⟨g, o, none⟩ = some (.string (bsOf t'.toks[0].text)) := hc 0 _ (cellsR_get t'.toks 0 hpos).1
    clear hc
    obtain ⟨c, hcd⟩ : ∃ c, c = bsOf t'.toks[0].text := ⟨_, rfl⟩
    rw [← hcd] at c0
    have hct : ∀ x, (c.toList == x) = (t'.toks[0].text == x) := by rw [hcd, bsOf_toList]; exact fun _ => rfl
    clear hcd
    have HCT : Hid (∀ x, (c.toList == x) = (t'.toks[0].text == x)) := hct
    clear hct
    by_cases hbin : t'.isBin = true
    · have hall : t'.strip = t' ∧ 0 ≤ rootR t'.toks ∧ 1 < t'.toks.length := by
        clear HCT c0 HC HR
        rcases t'.cases hw' with ⟨a, rfl⟩ | ⟨op, e, rfl⟩ | ⟨op, l, r, rfl⟩ | ⟨o, e, c, rfl⟩
        · cases hbin
        · cases hbin
        · have := l.toks_pos
          exact ⟨rfl, by rw [root_bin op l r hw']; omega, by rw [Tr.toks_bin, List.length_append, List.length_cons]; omega⟩
        · cases hbin
      have HE : Hid (t'.strip = t') := hall.1
      have hrt := hall.2.1
      have hlen := hall.2.2
      clear hall
      cases h40 : (c.toList == [40])
      · go_wp2
        go_ret
        exact ⟨⟨_, rfl, by rw [← HS.out, HE.out]; exact HR.out⟩, rfl⟩
      · go_wp2_with (go_at_call 191; refine (root_any _ _ _ hpos h4' HR.out).mono ?_; rintro e _ ⟨rfl, rfl⟩)
        go_ret
        exact ⟨⟨_, rfl, by rw [← HS.out, HE.out]; exact HR.out⟩, rfl⟩
    · have hbin' : t'.isBin = false := by simpa using hbin
      have hrt := root_none t' hw' hbin'
      by_cases hpar : ∃ o e c, t' = .par o e c
      · obtain ⟨po, e, pc, rfl⟩ := hpar
        obtain ⟨p1, p2, p3⟩ := Tr.wf_par hw'
        have h40 : (c.toList == [40]) = true := by rw [HCT.out]; show (po.text == cOpen) = true; rw [p1]; decide
        have hlen : (Tr.par po e pc).toks.length = e.toks.length + 2 := by simp [Tr.toks_par]
        have hep := e.toks_pos
        have hlen' : 1 < (Tr.par po e pc).toks.length := by omega
        have hsl := sl_lh g o (Tr.par po e pc).toks.length cap 1 (e.toks.length + 1) 1 (((Tr.par po e pc).toks.length : Int) - 1) rfl (by omega) (by omega) (by omega) (by omega)
        have hrd := reads_mid (w := w) (g := g) (o := o) (cap := cap - 1) [po] e.toks [pc] (by simp [Tr.toks_par]) hlt (by omega) HC.out
        have HRD : Hid (Reads w (.slice (some ⟨g, o + 2, none⟩) e.toks.length (cap - 1)) e.toks.length (cellsR e.toks)) := hrd
        have HL : Hid ((Tr.par po e pc).toks.length = e.toks.length + 2) := hlen
        clear hrd hlen
        go_wp2_with (go_at_call 191; refine (root_any _ _ _ hpos h4' HR.out).mono ?_; rintro e _ ⟨rfl, rfl⟩)
        go_round
        case rel => exact ⟨e, p3, HS.out, by have := HL.out; omega, HRD.out⟩
        case measure => have := HL.out; simp [lenOf]; omega
      · have HE : Hid (t'.strip = t') := (strip_self t' hw' hpar : t'.strip = t')
        have h40 : (c.toList == [40]) = false := by rw [HCT.out]; exact t'.first_open hw' hbin' (fun o e c h => hpar ⟨o, e, c, h⟩) hpos
        by_cases h1 : 1 < t'.toks.length
        · go_wp2
          go_ret
          exact ⟨⟨_, rfl, by rw [← HS.out, HE.out]; exact HR.out⟩, rfl⟩
        · go_wp2
          go_ret
          exact ⟨⟨_, rfl, by rw [← HS.out, HE.out]; exact HR.out⟩, rfl⟩

def isUnB : BT (RTok × RTok) → Bool
  | .node 1 _ _ _ _ => true
  | _ => false
def Tr.isUn (t : Tr) : Bool := isUnB t
theorem Tr.isUn_un (op : RTok) (e : Tr) : (Tr.un op e).isUn = true := rfl
theorem Tr.isUn_leaf (a : RTok) : (Tr.leaf a).isUn = false := rfl
set_option maxHeartbeats 1000000 in
theorem one_any (t : Tr) (ht : t.wf) (hb : t.isBin = false) (hp : ∀ o e c, t ≠ .par o e c) (v : Value) (w : World) (hl4 : t.toks.length ≤ 400) (hv : Reads w v t.toks.length (cellsR t.toks)) :
    Calls Tryz.prog 192 #[v] w fun e w' => e = .returned (.bool t.isUn) ∧ w' = w := by
  have HR : Hid (Reads w v t.toks.length (cellsR t.toks)) := hv
  have hpos := t.toks_pos
  have hrt := root_none t ht hb
  rcases hv with ⟨_, hn, _⟩ | ⟨g, o, cap, rfl, hncap, hlt, hc⟩
  · omega
  have c0 : w.cell? ⟨g, o, none⟩ = some (.string (bsOf t.toks[0].text)) := hc 0 _ (cellsR_get t.toks 0 hpos).1
  clear hc
  rcases t.cases ht with ⟨a, rfl⟩ | ⟨op, e, rfl⟩ | ⟨op, l, r, rfl⟩ | ⟨po, e, pc, rfl⟩
  · have hl1 : (Tr.leaf a).toks.length = 1 := rfl
    go_enter Tryz.func192, Tryz.ntmps192
    go_wp2
    go_ret
    exact ⟨rfl, rfl⟩
  · have hep := e.toks_pos
    have hlen : (Tr.un op e).toks.length = e.toks.length + 1 := by simp [Tr.toks_un]
    have hlen' : ¬ (Tr.un op e).toks.length < 2 := by omega
    clear hlen
    have hd : decide (((Tr.un op e).toks.length : Int) < 2) = false := by simp; omega
    have e1 : ((bsOf cMinus).toList == [45]) = true := by rw [bsOf_toList]; decide
    have e2 : ((bsOf cNot).toList == [45]) = false := by rw [bsOf_toList]; decide
    have e3 : ((bsOf cNot).toList == [110, 111, 116]) = true := by rw [bsOf_toList]; decide
    have h1 := (Tr.wf_un ht).1
    unfold unT at h1
    simp only [Tr.toks_un, List.getElem_cons_zero] at c0
    have hop : op.text = cMinus ∨ op.text = cNot := by simpa using h1
    rcases hop with hop | hop
    all_goals
      rw [hop] at c0
      go_enter Tryz.func192, Tryz.ntmps192
      go_wp2_with (go_at_call 191; refine (root_any _ _ _ hpos hl4 HR.out).mono ?_; rintro e _ ⟨rfl, rfl⟩)
      go_ret
      exact ⟨rfl, rfl⟩
  · cases hb
  · exact absurd rfl (hp po e pc)
end Go.Proofs.YtblfeahabbghmaaGreatDoor

set_option linter.unusedVariables false
set_option linter.unusedSimpArgs false
namespace Go.Proofs.YtblfeahabbghmaaGreatDoor
open Go.RowKit

theorem op_cases (t : Txt) : t = [97, 110, 100] ∨ t = [111, 114] ∨ t = [110, 111, 116] ∨ t = [61] ∨ t = [33, 61] ∨ t = [60] ∨ t = [60, 61] ∨ ((t == [97, 110, 100]) = false ∧ (t == [111, 114]) = false ∧ (t == [110, 111, 116]) = false ∧ (t == [61]) = false ∧ (t == [33, 61]) = false ∧ (t == [60]) = false ∧ (t == [60, 61]) = false) := by
  by_cases h1 : t = [97, 110, 100]
  · simp [h1]
  by_cases h2 : t = [111, 114]
  · simp [h2]
  by_cases h3 : t = [110, 111, 116]
  · simp [h3]
  by_cases h4 : t = [61]
  · simp [h4]
  by_cases h5 : t = [33, 61]
  · simp [h5]
  by_cases h6 : t = [60]
  · simp [h6]
  by_cases h7 : t = [60, 61]
  · simp [h7]
  simp [h1, h2, h3, h4, h5, h6, h7]
set_option maxHeartbeats 2000000 in
theorem made_any (t : ByteArray) (a b : Nat) (w : World) :
    Calls Tryz.prog 194 #[.string t, .int .i64 a, .int .i64 b] w fun e w' => e = .returned (.int .i64 (madeT t.toList a b)) ∧ w' = w := by
  rcases op_cases t.toList with h | h | h | h | h | h | h | ⟨h1, h2, h3, h4, h5, h6, h7⟩
  all_goals
    go_enter Tryz.func194, Tryz.ntmps194
    go_wp2
  all_goals go_ret
  all_goals exact ⟨ret_int (by simp_all [madeT, cAnd, cOr, cNot, cEq, cNeq, cLess, cMost] <;> (try split) <;> omega), rfl⟩

def wClass : List ByteArray := [⟨#[100, 114, 121]⟩, ⟨#[99, 111, 108, 100]⟩, ⟨#[115, 97, 102, 101]⟩, ⟨#[110, 101, 101, 100]⟩, ⟨#[104, 97, 115]⟩]
set_option maxHeartbeats 1000000 in
theorem leafKind_any (t : ByteArray) (w : World) :
    Calls Tryz.prog 196 #[.string t] w fun e w' => e = .returned (.int .i64 (leafKindT t.toList)) ∧ Below w.heap.size w w' := by
  have hcl : inL t wClass = classT t.toList := inL_eq t wClass tClass rfl
  cases hk : inL t wClass
  all_goals
    go_enter Tryz.func196, Tryz.ntmps196
    go_wp2_with (go_at_call 156; refine (in_any t wClass _ _ (reads_lit _ wClass _ _ _ rfl (by decide)) (by decide)).mono ?_; rintro e w' ⟨rfl, rfl⟩)
  all_goals go_ret
  all_goals first
    | exact ⟨ret_int (by simp_all [leafKindT, cTrue, cFalse]), Below.refl _ _⟩
    | exact ⟨ret_int (by simp_all [leafKindT, cTrue, cFalse]), (Below.refl _ _).alloc (Nat.le_refl _) _⟩

/-- A statement as it lies in memory: its name, three slices. -/
structure Stm where
  name : Txt
  expr : Value
  when : Value
  score : Value
def cellsS (l : List Stm) : List Value := l.flatMap fun s => [.string (bsOf s.name), s.expr, s.when, s.score]
theorem cellsS_length (l : List Stm) : (cellsS l).length = l.length * 4 := by
  induction l with
  | nil => rfl
  | cons a r ih => simp only [cellsS, List.flatMap_cons, List.length_append, List.length_cons] at ih ⊢; rw [ih]; simp; omega
theorem cellsS_get : ∀ (l : List Stm) (k : Nat) (h : k < l.length), (cellsS l)[k * 4]? = some (.string (bsOf l[k].name)) ∧ (cellsS l)[k * 4 + 1]? = some l[k].expr ∧ (cellsS l)[k * 4 + 2]? = some l[k].when ∧ (cellsS l)[k * 4 + 3]? = some l[k].score
  | a :: r, 0, _ => ⟨rfl, rfl, rfl, rfl⟩
  | a :: r, k + 1, h => by
    have := cellsS_get r k (by simpa using h)
    have e : cellsS (a :: r) = .string (bsOf a.name) :: a.expr :: a.when :: a.score :: cellsS r := rfl
    rw [e, show (k + 1) * 4 = k * 4 + 4 by omega, show k * 4 + 4 + 1 = (k * 4 + 1) + 4 by omega, show k * 4 + 4 + 2 = (k * 4 + 2) + 4 by omega, show k * 4 + 4 + 3 = (k * 4 + 3) + 4 by omega]
    simpa using this
def cellsI (l : List Nat) : List Value := l.map fun (n : Nat) => .int .i64 n
theorem knownT_drop (l : List Stm) (ks : List Nat) (t : Txt) (k : Nat) (h : k < l.length) (h2 : k < ks.length) :
    knownT (((l.map Stm.name).zip ks).drop k) t = if l[k].name == t then ks[k] else knownT (((l.map Stm.name).zip ks).drop (k + 1)) t := by
  rw [List.drop_eq_getElem_cons (by simp; omega)]
  simp [knownT]

set_option maxHeartbeats 1000000 in
theorem known_any (l : List Stm) (ks : List Nat) (hk : ks.length = l.length) (hl4 : l.length ≤ 400) (t : ByteArray) (lv kv : Value) (w : World) (hlv : Reads w lv l.length (cellsS l)) (hkv : Reads w kv ks.length (cellsI ks)) :
    Calls Tryz.prog 195 #[.agg #[lv, kv], .string t] w fun e w' => e = .returned (.int .i64 (knownT ((l.map Stm.name).zip ks) t.toList)) ∧ Below w.heap.size w w' := by
  rw [hk] at hkv
  have HKL : Hid (ks.length = l.length) := hk
  clear hk
  by_cases hl0 : l.length = 0
  · have hl : l = [] := List.eq_nil_of_length_eq_zero hl0
    subst hl
    have hbel : Below w.heap.size w (w.alloc (.cells #[lv, kv] 123)) := (Below.refl _ _).alloc (Nat.le_refl _) _
    rcases hlv with ⟨rfl, _, _⟩ | ⟨g, o, cap, rfl, _, _, _⟩
    all_goals
      go_enter Tryz.func195, Tryz.ntmps195
      go_wp2
      refine wp_loop_rounds 1 ?_; rw [rounds_succ]
      go_wp2
      go_ret
      exact ⟨rfl, hbel⟩
  · rcases hlv with ⟨_, hn, _⟩ | ⟨g, o, cap, rfl, hnc, hlt, hc⟩
    · omega
    rcases hkv with ⟨_, hn, _⟩ | ⟨g2, o2, cap2, rfl, hnc2, hlt2, hc2⟩
    · omega
    have hbel : Below w.heap.size w (w.alloc (.cells #[.slice (some ⟨g, o, none⟩) l.length cap, .slice (some ⟨g2, o2, none⟩) l.length cap2] 123)) := (Below.refl _ _).alloc (Nat.le_refl _) _
    have HBE : Hid (Below w.heap.size w (w.alloc (.cells #[.slice (some ⟨g, o, none⟩) l.length cap, .slice (some ⟨g2, o2, none⟩) l.length cap2] 123))) := hbel
    clear hbel
    go_enter Tryz.func195, Tryz.ntmps195
    go_wp2
    go_loop [5] (fun i => ∃ k : Nat, k ≤ l.length ∧ i = .int .i64 k ∧ knownT ((l.map Stm.name).zip ks) t.toList = knownT (((l.map Stm.name).zip ks).drop k) t.toList) (fun i => l.length - (intOf i).toNat)
    case atStart => exact ⟨0, Nat.zero_le _, rfl, rfl⟩
    case round =>
      obtain ⟨k, hkl, rfl, hkn⟩ := hrel
      have HK : Hid (knownT ((l.map Stm.name).zip ks) t.toList = knownT (((l.map Stm.name).zip ks).drop k) t.toList) := hkn
      clear hkn
      by_cases hlt3 : k < l.length
      · have hk2 : k < ks.length := by rw [HKL.out]; exact hlt3
        have ca := (HBE.out.cell (p := ⟨g, o + k * 4, none⟩) hlt).trans (hc _ _ (cellsS_get l k hlt3).1)
        have cb := (HBE.out.cell (p := ⟨g2, o2 + k, none⟩) hlt2).trans (hc2 k (.int .i64 ks[k]) (by simp [cellsI, hk2]))
        have HD := knownT_drop l ks t.toList k hlt3 hk2
        have HDD : Hid (knownT (((l.map Stm.name).zip ks).drop k) t.toList = if l[k].name == t.toList then ks[k] else knownT (((l.map Stm.name).zip ks).drop (k + 1)) t.toList) := HD
        clear HD
        obtain ⟨c, hcd⟩ : ∃ c, c = bsOf l[k].name := ⟨_, rfl⟩
        rw [← hcd] at ca
        have HCT : Hid (l[k].name = c.toList) := (by rw [hcd, bsOf_toList] : l[k].name = c.toList)
        clear hcd
        cases heq : (c.toList == t.toList)
        · go_wp2
          go_round
          case rel => exact ⟨k + 1, by omega, by go_num, by rw [HK.out, HDD.out, HCT.out, heq]; simp⟩
          case measure => simp [intOf]; omega
        · go_wp2
          go_ret
          exact ⟨ret_int (by rw [HK.out, HDD.out, HCT.out, heq]; simp), HBE.out⟩
      · go_wp2
        go_ret
        exact ⟨ret_int (by rw [HK.out, List.drop_eq_nil_of_le (by simp [HKL.out]; omega)]; rfl), HBE.out⟩
end Go.Proofs.YtblfeahabbghmaaGreatDoor
