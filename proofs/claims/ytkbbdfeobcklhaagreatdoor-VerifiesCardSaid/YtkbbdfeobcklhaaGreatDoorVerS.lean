/-
  One operation looked at, plain: what the verifier's heights and its mark are then worth.
-/
import Derived.Test.YtkbbdfeobcklhaaGreatDoorVerR
set_option linter.unusedVariables false
set_option linter.unusedSimpArgs false
namespace Go.Proofs.YtkbbdfeobcklhaaGreatDoor
open Go.RowKit

/-- Behind a look: the bytes are no image; or nothing was wrong so far. -/
def Looked (s : ByteArray) (nx : Nat) (H : Nat → Int) (wg : Bool) : Prop := (wg = true ∧ ¬ IsImg s) ∨ (wg = false ∧ ∃ l, Found s (bt s 2) H nx l)
def wrong1 (s : ByteArray) (H : Nat → Int) (p : Nat) : Bool := decide (H p = -1 ∨ H p < takesN (bt s p))
def wrong2 (s : ByteArray) (H : Nat → Int) (p : Nat) : Bool := insideW H (wrong1 s H p) (p + 1) (mkIns s p).next
def aft (s : ByteArray) (H : Nat → Int) (p : Nat) : Int := H p - takesN (bt s p) + laysN (bt s p)
theorem wrong2_true {s : ByteArray} {H : Nat → Int} {p : Nat} {l0 : List Ins} (h : Found s (bt s 2) H p l0) (hp : p < s.size) (hw : wrong2 s H p = true) : ¬ IsImg s := by
  unfold wrong2 insideW wrong1 at hw
  simp only [Bool.or_eq_true, decide_eq_true_eq] at hw
  rcases hw with (h1 | h1) | ⟨i, h1, h2, h3⟩
  · exact h.bad_none hp h1
  · by_cases hn : H p = -1
    · exact h.bad_none hp hn
    · exact h.bad_low hp hn h1
  · exact h.bad_inside hp (by omega) h1 h3
theorem wrong2_false {s : ByteArray} {H : Nat → Int} {p : Nat} (hw : wrong2 s H p = false) : H p ≠ -1 ∧ (takesN (bt s p) : Int) ≤ H p ∧ ∀ i, p < i → i < (mkIns s p).next → H i = -1 := by
  unfold wrong2 insideW wrong1 at hw
  simp only [Bool.or_eq_false_iff, decide_eq_false_iff_not, not_or] at hw
  obtain ⟨⟨h1, h2⟩, h3⟩ := hw
  refine ⟨h1, by omega, fun i h4 h5 => ?_⟩
  exact Classical.byContradiction fun h6 => h3 ⟨i, h5, h4, h6⟩
theorem looked_ends {s : ByteArray} {H : Nat → Int} {p : Nat} {l0 : List Ins} (h : Found s (bt s 2) H p l0) (hp : p < s.size) (ho : OpOkI s p) (hk : bt s p = 16 ∨ bt s p = 17) : Looked s (mkIns s p).next H (wrong2 s H p) := by
  cases hw : wrong2 s H p
  · obtain ⟨_, h2, h3⟩ := wrong2_false hw
    refine .inr ⟨rfl, _, h.step ho h2 h3 (fun q hq => ?_) (fun _ _ => rfl)⟩
    rcases hq with ⟨_, h4, h5, _⟩ | ⟨h4, _⟩
    · simp only [mkIns] at h4 h5; omega
    · simp only [mkIns] at h4; omega
  · exact .inl ⟨rfl, wrong2_true h hp hw⟩
/-- One place is gone on to. -/
theorem looked_one {s : ByteArray} {H : Nat → Int} {p q : Nat} {l0 : List Ins} (h : Found s (bt s 2) H p l0) (hp : p < s.size) (ho : OpOkI s p) (hq : ∀ r, Flows (mkIns s p) r ↔ r = q) :
    Looked s (mkIns s p).next (reachH s (bt s 2) H q (aft s H p)) (reachW s (bt s 2) H (wrong2 s H p) q (aft s H p)) := by
  have hfl : Flows (mkIns s p) q := (hq q).2 rfl
  cases hw : wrong2 s H p
  · obtain ⟨h1, h2, h3⟩ := wrong2_false hw
    by_cases hb : s.size ≤ q ∨ (bt s 2 : Int) < aft s H p ∨ (H q ≠ -1 ∧ H q ≠ aft s H p)
    · exact .inl ⟨by unfold reachW; rw [decide_eq_true hb]; rfl, h.bad_flow hp h1 hfl hb⟩
    · refine .inr ⟨by unfold reachW; rw [decide_eq_false hb]; rfl, _, h.step ho h2 h3 (fun r hr => ?_) (fun r hr => ?_)⟩
      · obtain rfl := (hq r).1 hr
        refine ⟨by omega, by unfold aft at hb; omega, by unfold aft at hb; omega, ?_⟩
        unfold reachH
        rw [if_neg (by omega)]
        simp [upd, aft]
      · unfold reachH
        rw [if_neg (by omega)]
        have : r ≠ q := fun e => hr ((hq r).2 e)
        simp [upd, this]
  · exact .inl ⟨by unfold reachW; rfl, wrong2_true h hp hw⟩
/-- Two places are gone on to. -/
theorem looked_two {s : ByteArray} {H : Nat → Int} {p q r : Nat} {l0 : List Ins} (h : Found s (bt s 2) H p l0) (hp : p < s.size) (ho : OpOkI s p) (hq : ∀ t, Flows (mkIns s p) t ↔ t = q ∨ t = r) :
    Looked s (mkIns s p).next (reachH s (bt s 2) (reachH s (bt s 2) H q (aft s H p)) r (aft s H p)) (reachW s (bt s 2) (reachH s (bt s 2) H q (aft s H p)) (reachW s (bt s 2) H (wrong2 s H p) q (aft s H p)) r (aft s H p)) := by
  have hfq : Flows (mkIns s p) q := (hq q).2 (.inl rfl)
  have hfr : Flows (mkIns s p) r := (hq r).2 (.inr rfl)
  cases hw : wrong2 s H p
  · obtain ⟨h1, h2, h3⟩ := wrong2_false hw
    by_cases hb : s.size ≤ q ∨ (bt s 2 : Int) < aft s H p ∨ (H q ≠ -1 ∧ H q ≠ aft s H p)
    · refine .inl ⟨?_, h.bad_flow hp h1 hfq hb⟩
      have : reachW s (bt s 2) H false q (aft s H p) = true := by unfold reachW; rw [decide_eq_true hb]; rfl
      rw [this]; rfl
    · have e1 : reachW s (bt s 2) H false q (aft s H p) = false := by unfold reachW; rw [decide_eq_false hb]; rfl
      have e2 : reachH s (bt s 2) H q (aft s H p) = upd H q (aft s H p) := by unfold reachH; rw [if_neg (by omega)]
      rw [e1, e2]
      by_cases hb2 : s.size ≤ r ∨ (bt s 2 : Int) < aft s H p ∨ (H r ≠ -1 ∧ H r ≠ aft s H p)
      · by_cases hrq : r = q
        · subst hrq; exact absurd hb2 hb
        · refine .inl ⟨?_, h.bad_flow hp h1 hfr hb2⟩
          unfold reachW
          rw [show upd H q (aft s H p) r = H r by simp [upd, hrq], decide_eq_true hb2]; rfl
      · refine .inr ⟨?_, _, h.step ho h2 h3 (fun t ht => ?_) (fun t ht => ?_)⟩
        · unfold reachW
          rw [decide_eq_false]; · rfl
          by_cases hrq : r = q
          · subst hrq; simp [upd]; omega
          · rw [show upd H q (aft s H p) r = H r by simp [upd, hrq]]; exact hb2
        · have e3 : reachH s (bt s 2) (upd H q (aft s H p)) r (aft s H p) = upd (upd H q (aft s H p)) r (aft s H p) := by unfold reachH; rw [if_neg (by omega)]
          rw [e3]
          rcases (hq t).1 ht with rfl | rfl
          · refine ⟨by omega, by unfold aft at hb; omega, by unfold aft at hb; omega, ?_⟩
            unfold upd aft
            by_cases e : t = r <;> simp [e]
          · refine ⟨by omega, by unfold aft at hb2; omega, by unfold aft at hb2; omega, ?_⟩
            simp [upd, aft]
        · have e3 : reachH s (bt s 2) (upd H q (aft s H p)) r (aft s H p) = upd (upd H q (aft s H p)) r (aft s H p) := by unfold reachH; rw [if_neg (by omega)]
          rw [e3]
          have h5 : t ≠ q := fun e => ht ((hq t).2 (.inl e))
          have h6 : t ≠ r := fun e => ht ((hq t).2 (.inr e))
          simp [upd, h5, h6]
  · exact .inl ⟨by unfold reachW; rfl, wrong2_true h hp hw⟩
theorem Looked.next_op {s : ByteArray} {p : Nat} (h : bt s p ≠ 13 ∧ bt s p ≠ 14 ∧ bt s p ≠ 15 ∧ bt s p ≠ 16 ∧ bt s p ≠ 17) : ∀ r, Flows (mkIns s p) r ↔ r = (mkIns s p).next := by
  intro r
  constructor
  · rintro (⟨_, _, _, h4⟩ | ⟨h4, _⟩)
    · exact h4
    · simp only [mkIns] at h4; omega
  · intro h4
    exact .inl ⟨by simp only [mkIns]; omega, by simp only [mkIns]; omega, by simp only [mkIns]; omega, h4⟩
theorem Looked.jump_op {s : ByteArray} {p : Nat} (h : bt s p = 13) : ∀ r, Flows (mkIns s p) r ↔ r = (mkIns s p).to := by
  intro r
  have ht := jump_to s p (.inl h)
  constructor
  · rintro (⟨h4, _⟩ | ⟨_, h4⟩)
    · exact absurd h h4
    · omega
  · intro h4
    exact .inr ⟨.inl h, by omega⟩
theorem Looked.if_op {s : ByteArray} {p : Nat} (h : bt s p = 14 ∨ bt s p = 15) : ∀ r, Flows (mkIns s p) r ↔ r = (mkIns s p).next ∨ r = (mkIns s p).to := by
  intro r
  have ht := jump_to s p (.inr h)
  constructor
  · rintro (⟨_, _, _, h4⟩ | ⟨_, h4⟩)
    · exact .inl h4
    · exact .inr (by omega)
  · rintro (h4 | h4)
    · exact .inl ⟨by simp only [mkIns]; omega, by simp only [mkIns]; omega, by simp only [mkIns]; omega, h4⟩
    · exact .inr ⟨.inr h, by omega⟩
theorem GlobP.drew {w : World} (h : GlobP w) : GlobP w.drew := ⟨h.bytes, h.takes, h.lays, h.size⟩
theorem GlobP.drewN {w : World} (h : GlobP w) (n : Nat) : GlobP (w.drewN n) := ⟨h.bytes, h.takes, h.lays, h.size⟩
theorem GlobP.belowB {w w' : World} {B : Nat} (h : GlobP w) (hb : Below B w w') (h0 : 0 < B) (h1 : 1 < B) (h2 : 2 < B) : GlobP w' :=
  ⟨fun c hc => (hb.cell (p := ⟨0, c, none⟩) h0).trans (h.bytes c hc), fun c hc => (hb.cell (p := ⟨1, c, none⟩) h1).trans (h.takes c hc), fun c hc => (hb.cell (p := ⟨2, c, none⟩) h2).trans (h.lays c hc), ⟨Nat.lt_of_lt_of_le h.size.1 hb.size, Nat.lt_of_lt_of_le h.size.2.1 hb.size, Nat.lt_of_lt_of_le h.size.2.2 hb.size⟩⟩
theorem VSt.drew {w : World} {vb hb : Nat} {s : ByteArray} {most : Nat} {H : Nat → Int} {wg : Bool} (h : VSt w vb hb s most H wg) : VSt w.drew vb hb s most H wg := ⟨h.st, h.ht, h.ne⟩
end Go.Proofs.YtkbbdfeobcklhaaGreatDoor
