/-
  The program's check: lookFor; kinds.
-/
import Derived.Test.YtjjbmbjmdgoofaaGreatDoorG15
set_option linter.unusedVariables false
set_option linter.unusedSimpArgs false
namespace Go.Proofs.YtjjbmbjmdgoofaaGreatDoor
open Go.RowKit Go.Deep
theorem lookGo_len (ls : List PLet) : ∀ (l : List PNode) (ks : List Nat) (f : Option Nat), (lookGo ls ks f l).1.length = ks.length + l.length
  | [], ks, f => rfl
  | n :: r, ks, f => by rw [lookGo, lookGo_len ls r]; simp; omega
set_option maxHeartbeats 1000000 in
set_option maxRecDepth 100000 in
theorem lookFor_any {w : World} {B kb : Nat} {nv lv rv : Value} {ks : List Nat} {f : Option Nat} {N : List PNode} {ls : List PLet} {rs : List PRule} (h : LkAt w B kb nv lv rv ks f N ls rs) (ha : Apart2 B kb nv lv rv) (want : Nat) (e : PExp) (he : ExpOk N e) (he1 : 1 ≤ e.behind) (hk : ks.length = e.fr) (hx : ∀ p ∈ ls, 1 ≤ p.val.behind ∧ p.val.behind ≤ 401) (hn : ∀ n ∈ N, n.left ≤ 1000 ∧ n.right ≤ 1000) :
    Calls Tryz.prog 120 #[.pointer (some ⟨B, 0, none⟩), .int .i64 want, expA e] w fun e' w' => e' = .returned (.tuple #[]) ∧ LkAt w' B kb nv lv rv (lookFor ls N want e (ks, f)).1 (lookFor ls N want e (ks, f)).2 N ls rs ∧ But2 B kb w w' := by
  have hB := h.blk.lt
  have hkb := h.row.lt
  have HW := hideP (LkW.mk (h.below (new_below w (.cells #[.int .i64 e.place, .int .i64 e.fr, .int .i64 e.behind] 118))) (Blk.new w #[.int .i64 e.place, .int .i64 e.fr, .int .i64 e.behind] 118) (by omega) (by omega) (But2.of (new_below w _)))
  have HA := hideP ha
  have HX := hideP hx
  have HN := hideP hn
  have HE := hideP he
  have HKS := hideP hk
  have hbe : 1 ≤ e.behind ∧ e.behind ≤ 401 := ⟨he1, Nat.le_trans he.lt h.pa.nb⟩
  clear h ha hx hn hk he
  obtain ⟨st, hst⟩ : ∃ st, lookGo ls ks f (segE N e) = st := ⟨_, rfl⟩
  obtain ⟨ks2, f2⟩ := st
  have HST := hideP hst
  have HLF : Hid (lookFor ls N want e (ks, f) = (ks2, failK f2 (decide (kindAt ks2 e ≠ want)) e.place)) := by rw [Hid, lookFor, hst]
  clear hst
  rw [HLF.out]
  obtain ⟨kd, hkd⟩ : ∃ kd, kindAt ks2 e = kd := ⟨_, rfl⟩
  have HKD := hideP hkd
  rw [hkd]
  clear hkd
  by_cases hz : kd = want
  · have hz' : ((kd : Int) != (want : Int)) = false := by simp; omega
    have HFZ : Hid (failK f2 (decide (kd ≠ want)) e.place = f2) := by
      rw [Hid, show decide (kd ≠ want) = false by simpa using hz]
      cases f2 <;> rfl
    rw [HFZ.out]
    unfold expA
    go_enter Tryz.func120, Tryz.ntmps120
    go_wp2_with (first | (go_at_call 119; refine (look_any HW.out.lk HA.out e HE.out HKS.out HX.out HN.out).mono ?_; rintro e' w5 ⟨rfl, hl5, hb5⟩; rw [HST.out] at hl5; have HW5 := hideP (HW.out.step hl5 hb5); have y0 := HW5.out.bx.cell 0; have y1 := HW5.out.bx.cell 1; have y2 := HW5.out.bx.cell 2; simp only [List.getElem?_toArray, List.getElem?_cons_zero, List.getElem?_cons_succ] at y0 y1 y2; clear hl5 hb5) | (go_at_call 144; refine (kindOf_any HW5.out.lk e hbe).mono ?_; rintro e' w6 ⟨rfl, hb6⟩; rw [HKD.out]; have HW6 := hideP (HW5.out.step (HW5.out.lk.below hb6) (But2.of hb6)); clear hb6))
    exact bodyPost_end (results_none rfl _ _ _) rfl ⟨rfl, HW6.out.lk, HW6.out.kp⟩
  · have hz' : ((kd : Int) != (want : Int)) = true := by simp; omega
    have HFZ : Hid (failK f2 (decide (kd ≠ want)) e.place = failK f2 true e.place) := by rw [Hid, show decide (kd ≠ want) = true by simpa using hz]
    rw [HFZ.out]
    unfold expA
    go_enter Tryz.func120, Tryz.ntmps120
    go_wp2_with (first | (go_at_call 119; refine (look_any HW.out.lk HA.out e HE.out HKS.out HX.out HN.out).mono ?_; rintro e' w5 ⟨rfl, hl5, hb5⟩; rw [HST.out] at hl5; have HW5 := hideP (HW.out.step hl5 hb5); have y0 := HW5.out.bx.cell 0; have y1 := HW5.out.bx.cell 1; have y2 := HW5.out.bx.cell 2; simp only [List.getElem?_toArray, List.getElem?_cons_zero, List.getElem?_cons_succ] at y0 y1 y2; clear hl5 hb5) | (go_at_call 144; refine (kindOf_any HW5.out.lk e hbe).mono ?_; rintro e' w6 ⟨rfl, hb6⟩; rw [HKD.out]; have HW6 := hideP (HW5.out.step (HW5.out.lk.below hb6) (But2.of hb6)); clear hb6; have v0 := HW6.out.bx.cell 0; simp only [List.getElem?_toArray, List.getElem?_cons_zero, List.getElem?_cons_succ] at v0) | (go_at_call 143; refine (fail_any HW6.out.lk HA.out e.place).mono ?_; rintro e' w7 ⟨rfl, hl7, hb7⟩; have HW7 := hideP (HW6.out.step hl7 hb7); clear hl7 hb7))
    exact bodyPost_end (results_none rfl _ _ _) rfl ⟨rfl, HW7.out.lk, HW7.out.kp⟩
end Go.Proofs.YtjjbmbjmdgoofaaGreatDoor
namespace Go.Proofs.YtjjbmbjmdgoofaaGreatDoor
open Go.RowKit Go.Deep
def ConsL : Nat → List PLet → Prop
  | _, [] => True
  | b, p :: r => p.val.fr = b ∧ b < p.val.behind ∧ ConsL p.val.behind r
def endL : Nat → List PLet → Nat
  | b, [] => b
  | _, p :: r => endL p.val.behind r
def ConsR : Nat → List PRule → Prop
  | _, [] => True
  | b, p :: r => (p.hw = true → p.when.fr = b ∧ b < p.when.behind) ∧ (p.hs = true → p.score.fr = (if p.hw then p.when.behind else b) ∧ p.score.fr < p.score.behind) ∧ ConsR (if p.hs then p.score.behind else if p.hw then p.when.behind else b) r
theorem cons_lets : ∀ (L : List RSt), (∀ s ∈ L, s.wf) → isLetL' L → ∀ b, ConsL b (letsS b L) ∧ endL b (letsS b L) = b + numS L
  | [], _, _, b => ⟨trivial, rfl⟩
  | s :: r, hw, hl, b => by
    rcases s.cases with ⟨kw, name, eq, e, semi, rfl⟩ | ⟨wh, act, sc, semi, rfl⟩
    · obtain ⟨h1, h2⟩ := cons_lets r (fun x hx => hw x (by simp [hx])) (fun x hx => hl x (by simp [hx])) (b + e.num)
      have hp := e.num_pos (hw _ List.mem_cons_self).2.2.2.1
      rw [letsS, RSt.lets_let, RSt.num_let, List.singleton_append, numS, RSt.num_let]
      exact ⟨⟨rfl, by simp [layE]; omega, h1⟩, by rw [endL]; show endL (b + e.num) _ = _; rw [h2]; omega⟩
    · have := hl _ List.mem_cons_self; cases this
theorem cons_rules : ∀ (R : List RSt), (∀ s ∈ R, s.wf) → isRuleL' R → ∀ b, ConsR b (rulesS b R)
  | [], _, _, b => trivial
  | s :: r, hw, hl, b => by
    rcases s.cases with ⟨kw, name, eq, e, semi, rfl⟩ | ⟨wh, act, sc, semi, rfl⟩
    · have := hl _ List.mem_cons_self; cases this
    · have ih := cons_rules r (fun x hx => hw x (by simp [hx])) (fun x hx => hl x (by simp [hx])) (b + (RSt.rule wh act sc semi).num)
      have hws := hw _ List.mem_cons_self
      rw [RSt.num_rule] at ih
      rw [rulesS, RSt.rules_rule, RSt.num_rule, List.singleton_append]
      cases wh with
      | none =>
        cases sc with
        | none => exact ⟨fun h => (by cases h), fun h => (by cases h), by simpa [optNum] using ih⟩
        | some e =>
          have hp := e.num_pos (hws.2.2.1 e rfl)
          exact ⟨fun h => (by cases h), fun _ => ⟨by simp [optE, layE, optNum], by simp [optE, layE, optNum]; omega⟩, by simpa [optNum, optE, layE] using ih⟩
      | some p =>
        obtain ⟨k, e1⟩ := p
        have hp1 := e1.num_pos (hws.1 k e1 rfl).2
        cases sc with
        | none => exact ⟨fun _ => ⟨by simp [optE, layE], by simp [optE, layE]; omega⟩, fun h => (by cases h), by simpa [optNum, optE, layE] using ih⟩
        | some e =>
          have hp := e.num_pos (hws.2.2.1 e rfl)
          exact ⟨fun _ => ⟨by simp [optE, layE], by simp [optE, layE]; omega⟩, fun _ => ⟨by simp [optE, layE, optNum], by simp [optE, layE, optNum]; omega⟩, by simpa [optNum, optE, layE, Nat.add_assoc] using ih⟩
structure Fits (N : List PNode) (ls : List PLet) (rs : List PRule) : Prop where
  x : ExpsOk N ls rs
  l : ConsL 0 ls
  r : ConsR (endL 0 ls) rs
  n : ∀ n ∈ N, n.left ≤ 1000 ∧ n.right ≤ 1000
theorem consL_pos : ∀ (ls : List PLet) (b : Nat), ConsL b ls → ∀ p ∈ ls, 1 ≤ p.val.behind
  | [], _, _, p, hp => by cases hp
  | q :: r, b, h, p, hp => by
    obtain ⟨h1, h2, h3⟩ := h
    simp only [List.mem_cons] at hp
    rcases hp with rfl | hp
    · omega
    · exact consL_pos r _ h3 p hp
theorem Fits.lets {N : List PNode} {ls : List PLet} {rs : List PRule} (h : Fits N ls rs) (hN : N.length ≤ 401) : ∀ p ∈ ls, 1 ≤ p.val.behind ∧ p.val.behind ≤ 401 :=
  fun p hp => ⟨consL_pos ls 0 h.l p hp, Nat.le_trans (h.x.l p hp).lt hN⟩
theorem seg_len {N : List PNode} {e : PExp} (h : ExpOk N e) : (segE N e).length = e.behind - e.fr := by
  have h1 := h.le
  have h2 := h.lt
  simp [segE]; omega
theorem look_len {ls : List PLet} {N : List PNode} {e : PExp} {ks : List Nat} {f : Option Nat} (h : ExpOk N e) (hk : ks.length = e.fr) : (lookGo ls ks f (segE N e)).1.length = e.behind := by
  rw [lookGo_len, seg_len h, hk]
  have := h.le
  omega
end Go.Proofs.YtjjbmbjmdgoofaaGreatDoor
