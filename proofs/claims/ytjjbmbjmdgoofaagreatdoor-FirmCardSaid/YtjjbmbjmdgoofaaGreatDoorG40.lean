/-
  One operation looked at, plain: what the verifier's heights and its mark are then worth.
-/
import Derived.Test.YtjjbmbjmdgoofaaGreatDoorG39
import Derived.Deep.RegionHeld3
set_option linter.unusedVariables false
set_option linter.unusedSimpArgs false
namespace Go.Proofs.YtjjbmbjmdgoofaaGreatDoor
open Go.RowKit
def LookedV (s : ByteArray) (nx : Nat) (H : Nat → Int) (wg : Bool) : Prop := (wg = true ∧ ¬ IsImg s) ∨ (wg = false ∧ ∃ l, Found s (bt s 2) H nx l)
def wrong1 (s : ByteArray) (H : Nat → Int) (p : Nat) : Bool := decide (H p = -1 ∨ H p < takesN (bt s p))
def wrong2 (s : ByteArray) (H : Nat → Int) (p : Nat) : Bool := insideW H (wrong1 s H p) (p + 1) (mkIns s p).next
def aft (s : ByteArray) (H : Nat → Int) (p : Nat) : Int := H p - takesN (bt s p) + laysN (bt s p)
theorem wrong2_true {s : ByteArray} {H : Nat → Int} {p : Nat} {l0 : List Ins} (h : Found s (bt s 2) H p l0) (hp : p < s.size) (hw : wrong2 s H p = true) : ¬ IsImg s := by
  unfold wrong2 insideW wrong1 at hw
  simp only [Bool.or_eq_true, decide_eq_true_eq] at hw
  rcases hw with (h1 | h1) | ⟨i, h1, h2, h3⟩
  · exact h.bad_none hp h1
  · by_cases hn : H p = -1
    · exact h.bad_none hp hn
    · exact h.bad_low hp hn h1
  · exact h.bad_inside hp (by omega) h1 h3
theorem wrong2_false {s : ByteArray} {H : Nat → Int} {p : Nat} (hw : wrong2 s H p = false) : H p ≠ -1 ∧ (takesN (bt s p) : Int) ≤ H p ∧ ∀ i, p < i → i < (mkIns s p).next → H i = -1 := by
  unfold wrong2 insideW wrong1 at hw
  simp only [Bool.or_eq_false_iff, decide_eq_false_iff_not, not_or] at hw
  obtain ⟨⟨h1, h2⟩, h3⟩ := hw
  refine ⟨h1, by omega, fun i h4 h5 => ?_⟩
  exact Classical.byContradiction fun h6 => h3 ⟨i, h5, h4, h6⟩
theorem looked_ends {s : ByteArray} {H : Nat → Int} {p : Nat} {l0 : List Ins} (h : Found s (bt s 2) H p l0) (hp : p < s.size) (ho : OpOkI s p) (hk : bt s p = 16 ∨ bt s p = 17) : LookedV s (mkIns s p).next H (wrong2 s H p) := by
  cases hw : wrong2 s H p
  · obtain ⟨_, h2, h3⟩ := wrong2_false hw
    refine .inr ⟨rfl, _, h.step ho h2 h3 (fun q hq => ?_) (fun _ _ => rfl)⟩
    rcases hq with ⟨_, h4, h5, _⟩ | ⟨h4, _⟩
    · simp only [mkIns] at h4 h5; omega
    · simp only [mkIns] at h4; omega
  · exact .inl ⟨rfl, wrong2_true h hp hw⟩
theorem looked_one {s : ByteArray} {H : Nat → Int} {p q : Nat} {l0 : List Ins} (h : Found s (bt s 2) H p l0) (hp : p < s.size) (ho : OpOkI s p) (hq : ∀ r, Flows (mkIns s p) r ↔ r = q) :
    LookedV s (mkIns s p).next (reachH s (bt s 2) H q (aft s H p)) (reachW s (bt s 2) H (wrong2 s H p) q (aft s H p)) := by
  have hfl : Flows (mkIns s p) q := (hq q).2 rfl
  cases hw : wrong2 s H p
  · obtain ⟨h1, h2, h3⟩ := wrong2_false hw
    by_cases hb : s.size ≤ q ∨ (bt s 2 : Int) < aft s H p ∨ (H q ≠ -1 ∧ H q ≠ aft s H p)
    · exact .inl ⟨by unfold reachW; rw [decide_eq_true hb]; rfl, h.bad_flow hp h1 hfl hb⟩
    · refine .inr ⟨by unfold reachW; rw [decide_eq_false hb]; rfl, _, h.step ho h2 h3 (fun r hr => ?_) (fun r hr => ?_)⟩
      · obtain rfl := (hq r).1 hr
        refine ⟨by omega, by unfold aft at hb; omega, by unfold aft at hb; omega, ?_⟩
        unfold reachH
        rw [if_neg (by omega)]
        simp [upd, aft]
      · unfold reachH
        rw [if_neg (by omega)]
        have : r ≠ q := fun e => hr ((hq r).2 e)
        simp [upd, this]
  · exact .inl ⟨by unfold reachW; rfl, wrong2_true h hp hw⟩
theorem looked_two {s : ByteArray} {H : Nat → Int} {p q r : Nat} {l0 : List Ins} (h : Found s (bt s 2) H p l0) (hp : p < s.size) (ho : OpOkI s p) (hq : ∀ t, Flows (mkIns s p) t ↔ t = q ∨ t = r) :
    LookedV s (mkIns s p).next (reachH s (bt s 2) (reachH s (bt s 2) H q (aft s H p)) r (aft s H p)) (reachW s (bt s 2) (reachH s (bt s 2) H q (aft s H p)) (reachW s (bt s 2) H (wrong2 s H p) q (aft s H p)) r (aft s H p)) := by
  have hfq : Flows (mkIns s p) q := (hq q).2 (.inl rfl)
  have hfr : Flows (mkIns s p) r := (hq r).2 (.inr rfl)
  cases hw : wrong2 s H p
  · obtain ⟨h1, h2, h3⟩ := wrong2_false hw
    by_cases hb : s.size ≤ q ∨ (bt s 2 : Int) < aft s H p ∨ (H q ≠ -1 ∧ H q ≠ aft s H p)
    · refine .inl ⟨?_, h.bad_flow hp h1 hfq hb⟩
      have : reachW s (bt s 2) H false q (aft s H p) = true := by unfold reachW; rw [decide_eq_true hb]; rfl
      rw [this]; rfl
    · have e1 : reachW s (bt s 2) H false q (aft s H p) = false := by unfold reachW; rw [decide_eq_false hb]; rfl
      have e2 : reachH s (bt s 2) H q (aft s H p) = upd H q (aft s H p) := by unfold reachH; rw [if_neg (by omega)]
      rw [e1, e2]
      by_cases hb2 : s.size ≤ r ∨ (bt s 2 : Int) < aft s H p ∨ (H r ≠ -1 ∧ H r ≠ aft s H p)
      · by_cases hrq : r = q
        · subst hrq; exact absurd hb2 hb
        · refine .inl ⟨?_, h.bad_flow hp h1 hfr hb2⟩
          unfold reachW
          rw [show upd H q (aft s H p) r = H r by simp [upd, hrq], decide_eq_true hb2]; rfl
      · refine .inr ⟨?_, _, h.step ho h2 h3 (fun t ht => ?_) (fun t ht => ?_)⟩
        · unfold reachW
          rw [decide_eq_false]; · rfl
          by_cases hrq : r = q
          · subst hrq; simp [upd]; omega
          · rw [show upd H q (aft s H p) r = H r by simp [upd, hrq]]; exact hb2
        · have e3 : reachH s (bt s 2) (upd H q (aft s H p)) r (aft s H p) = upd (upd H q (aft s H p)) r (aft s H p) := by unfold reachH; rw [if_neg (by omega)]
          rw [e3]
          rcases (hq t).1 ht with rfl | rfl
          · refine ⟨by omega, by unfold aft at hb; omega, by unfold aft at hb; omega, ?_⟩
            unfold upd aft
            by_cases e : t = r <;> simp [e]
          · refine ⟨by omega, by unfold aft at hb2; omega, by unfold aft at hb2; omega, ?_⟩
            simp [upd, aft]
        · have e3 : reachH s (bt s 2) (upd H q (aft s H p)) r (aft s H p) = upd (upd H q (aft s H p)) r (aft s H p) := by unfold reachH; rw [if_neg (by omega)]
          rw [e3]
          have h5 : t ≠ q := fun e => ht ((hq t).2 (.inl e))
          have h6 : t ≠ r := fun e => ht ((hq t).2 (.inr e))
          simp [upd, h5, h6]
  · exact .inl ⟨by unfold reachW; rfl, wrong2_true h hp hw⟩
theorem LookedV.next_op {s : ByteArray} {p : Nat} (h : bt s p ≠ 13 ∧ bt s p ≠ 14 ∧ bt s p ≠ 15 ∧ bt s p ≠ 16 ∧ bt s p ≠ 17) : ∀ r, Flows (mkIns s p) r ↔ r = (mkIns s p).next := by
  intro r
  constructor
  · rintro (⟨_, _, _, h4⟩ | ⟨h4, _⟩)
    · exact h4
    · simp only [mkIns] at h4; omega
  · intro h4
    exact .inl ⟨by simp only [mkIns]; omega, by simp only [mkIns]; omega, by simp only [mkIns]; omega, h4⟩
theorem LookedV.jump_op {s : ByteArray} {p : Nat} (h : bt s p = 13) : ∀ r, Flows (mkIns s p) r ↔ r = (mkIns s p).to := by
  intro r
  have ht := jump_to s p (.inl h)
  constructor
  · rintro (⟨h4, _⟩ | ⟨_, h4⟩)
    · exact absurd h h4
    · omega
  · intro h4
    exact .inr ⟨.inl h, by omega⟩
theorem LookedV.if_op {s : ByteArray} {p : Nat} (h : bt s p = 14 ∨ bt s p = 15) : ∀ r, Flows (mkIns s p) r ↔ r = (mkIns s p).next ∨ r = (mkIns s p).to := by
  intro r
  have ht := jump_to s p (.inr h)
  constructor
  · rintro (⟨_, _, _, h4⟩ | ⟨_, h4⟩)
    · exact .inl h4
    · exact .inr (by omega)
  · rintro (h4 | h4)
    · exact .inl ⟨by simp only [mkIns]; omega, by simp only [mkIns]; omega, by simp only [mkIns]; omega, h4⟩
    · exact .inr ⟨.inr h, by omega⟩
theorem GlobP.drew {w : World} (h : GlobP w) : GlobP w.drew := ⟨h.bytes, h.takes, h.lays, h.size⟩
theorem GlobP.belowB {w w' : World} {B : Nat} (h : GlobP w) (hb : Below B w w') (h0 : 0 < B) (h1 : 1 < B) (h2 : 2 < B) : GlobP w' :=
  ⟨fun c hc => (hb.cell (p := ⟨0, c, none⟩) h0).trans (h.bytes c hc), fun c hc => (hb.cell (p := ⟨1, c, none⟩) h1).trans (h.takes c hc), fun c hc => (hb.cell (p := ⟨2, c, none⟩) h2).trans (h.lays c hc), ⟨Nat.lt_of_lt_of_le h.size.1 hb.size, Nat.lt_of_lt_of_le h.size.2.1 hb.size, Nat.lt_of_lt_of_le h.size.2.2 hb.size⟩⟩
theorem VStv.drew {w : World} {vb hb : Nat} {s : ByteArray} {most : Nat} {H : Nat → Int} {wg : Bool} (h : VStv w vb hb s most H wg) : VStv w.drew vb hb s most H wg := ⟨h.st, h.ht, h.ne⟩
end Go.Proofs.YtjjbmbjmdgoofaaGreatDoor
namespace Go.Proofs.YtjjbmbjmdgoofaaGreatDoor
open Go.RowKit
def MRes (w : World) (mb : Nat) (x : Itm) (y : Bn) (res : (Nat × Int) ⊕ (Nat × List Int)) (n : Int) : Prop :=
  match res with
  | .inl (k, v) => ∃ sv st p, MSt w mb x y sv st p true k v n
  | .inr (p, st) => ∃ sv, MSt w mb x y sv st p false 0 0 n
theorem MRes.lay0 {w : World} {mb : Nat} {x : Itm} {y : Bn} {a : Int} {f p : Nat} {st : List Int} {n : Int} (hf : f = 0) (h : ∃ sv, MSt w mb x y sv (a :: st) p false 0 0 n) : MRes w mb x y (layM (a, f) p st) n := by
  subst hf; exact h
theorem MRes.lay1 {w : World} {mb : Nat} {x : Itm} {y : Bn} {a : Int} {f p : Nat} {st : List Int} {n : Int} (hf : f ≠ 0) (h : ∃ sv st p, MSt w mb x y sv st p true 2 f n) : MRes w mb x y (layM (a, f) p st) n := by
  unfold layM; simp only [hf, if_false]; exact h
set_option maxHeartbeats 1000000 in
theorem layOrFault_any {w : World} {mb : Nat} {x : Itm} {y : Bn} {sv : Value} {st : List Int} {p : Nat} {n : Int} (z : Int) (f : Nat) (hf : f ≤ 2) (hl : st.length ≤ 4000) (h : MSt w mb x y sv st p false 0 0 n) :
    Calls Tryz.prog 151 #[.pointer (some ⟨mb, 0, none⟩), .int .i64 z, .int .i64 f] w fun e w' => e = .returned (.tuple #[]) ∧ Below mb w w' ∧ MRes w' mb x y (layM (z, f) p st) n := by
  have HM : Hid (MSt w mb x y sv st p false 0 0 n) := h
  clear h
  by_cases h0 : f = 0
  · subst h0
    go_enter Tryz.func151, Tryz.ntmps151
    go_wp2_with (go_at_call 132; refine (rlay_any z hl HM.out).mono ?_; rintro e w1 ⟨rfl, hb1, hm1⟩)
    go_end0
    exact ⟨rfl, hb1, .lay0 rfl hm1⟩
  · have e0 : ((f : Int) == 0) = false := by simp; omega
    have e0' : ((f : Int) != 0) = true := by simp; omega
    have H0 : Hid (f ≠ 0) := h0
    clear h0
    go_enter Tryz.func151, Tryz.ntmps151
    go_wp2_with (go_at_call 137; refine (end_any 2 f HM.out).mono ?_; rintro e w1 ⟨rfl, hb1, hm1⟩)
    refine bodyPost_ret (results_none rfl _ _ _) rfl ?_
    exact ⟨rfl, hb1, .lay1 H0.out ⟨_, _, _, hm1⟩⟩
theorem neg_le2 (a : Int) : (negN a).2 ≤ 2 := by unfold negN exact64; split <;> simp
theorem one_le2 (c : Nat) (a : Int) : (oneN c a).2 ≤ 2 := by
  unfold oneN; split
  · exact neg_le2 a
  · simp
theorem join_le2 (c : Nat) (a b : Int) : (joinN c a b).2 ≤ 2 := by
  have e : ∀ v, (exact64 v).2 ≤ 2 := fun v => by unfold exact64; split <;> simp
  unfold joinN
  (repeat' split) <;> first | exact e _ | simp
set_option maxHeartbeats 1000000 in
theorem one_any' {w : World} {mb : Nat} {x : Itm} {y : Bn} {sv : Value} {a : Int} {r : List Int} {p : Nat} {n : Int} (c : Nat) (hc : c = 2 ∨ c = 3) (ha : In64 a) (hl : r.length ≤ 4000) (h : MSt w mb x y sv (a :: r) p false 0 0 n) :
    Calls Tryz.prog 134 #[.pointer (some ⟨mb, 0, none⟩), .int .i64 c] w fun e w' => e = .returned (.tuple #[]) ∧ Below mb w w' ∧ MRes w' mb x y (layM (oneN c a) p r) n := by
  have HM : Hid (MSt w mb x y sv (a :: r) p false 0 0 n) := h
  have HA : Hid (In64 a) := ha
  have HC : Hid (c = 2 ∨ c = 3) := hc
  obtain ⟨z, hz⟩ : ∃ z, z = (oneN c a).1 := ⟨_, rfl⟩
  obtain ⟨f, hf⟩ : ∃ f, f = (oneN c a).2 := ⟨_, rfl⟩
  have HZ : Hid ((oneN c a).1 = z) := hz.symm
  have HF : Hid ((oneN c a).2 = f) := hf.symm
  have hf2 : f ≤ 2 := by rw [hf]; exact one_le2 c a
  have e : layM (oneN c a) p r = layM (z, f) p r := by rw [hz, hf]
  rw [e]
  clear h ha hc hz hf e
  go_enter Tryz.func134, Tryz.ntmps134
  go_wp2_with (first | (go_at_call 136; refine (take_any hl HM.out).mono ?_; rintro e w1 ⟨rfl, hb1, _, sv1, hm1⟩; have HM1 := Hid.mk2 hm1; clear hm1) | (go_at_call 146; refine (One_any c HC.out a HA.out _).mono ?_; rintro e w2 ⟨rfl, rfl⟩; rw [HZ.out, HF.out]) | (go_at_call 151; refine (layOrFault_any z f hf2 hl HM1.out).mono ?_; rintro e w3 ⟨rfl, hb3, hm3⟩))
  go_end0
  exact ⟨rfl, hb1.trans hb3, hm3⟩
set_option maxHeartbeats 1000000 in
theorem two_any' {w : World} {mb : Nat} {x : Itm} {y : Bn} {sv : Value} {a b : Int} {r : List Int} {p : Nat} {n : Int} (c : Nat) (hc : 4 ≤ c ∧ c ≤ 12) (ha : In64 a) (hb : In64 b) (hl : r.length ≤ 3000) (h : MSt w mb x y sv (b :: a :: r) p false 0 0 n) :
    Calls Tryz.prog 138 #[.pointer (some ⟨mb, 0, none⟩), .int .i64 c] w fun e w' => e = .returned (.tuple #[]) ∧ Below mb w w' ∧ MRes w' mb x y (layM (joinN c a b) p r) n := by
  have HM : Hid (MSt w mb x y sv (b :: a :: r) p false 0 0 n) := h
  have HA : Hid (In64 a) := ha
  have HB : Hid (In64 b) := hb
  obtain ⟨z, hz⟩ : ∃ z, z = (joinN c a b).1 := ⟨_, rfl⟩
  obtain ⟨f, hf⟩ : ∃ f, f = (joinN c a b).2 := ⟨_, rfl⟩
  have HZ : Hid ((joinN c a b).1 = z) := hz.symm
  have HF : Hid ((joinN c a b).2 = f) := hf.symm
  have hf2 : f ≤ 2 := by rw [hf]; exact join_le2 c a b
  have e : layM (joinN c a b) p r = layM (z, f) p r := by rw [hz, hf]
  rw [e]
  clear h ha hb hz hf e
  go_enter Tryz.func138, Tryz.ntmps138
  go_wp2_with fail
  refine (take_any (by simp; omega) HM.out).mono ?_
  rintro e w1 ⟨rfl, hb1, _, sv1, hm1⟩
  have HM1 := Hid.mk2 hm1
  clear hm1
  go_wp2_with fail
  refine (take_any (by omega) HM1.out).mono ?_
  rintro e w2 ⟨rfl, hb2, _, sv2, hm2⟩
  have HM2 := Hid.mk2 hm2
  clear hm2
  go_wp2_with (first | (go_at_call 148; refine (Two_any c hc a b HA.out HB.out _).mono ?_; rintro e w2 ⟨rfl, rfl⟩; rw [HZ.out, HF.out]) | (go_at_call 151; refine (layOrFault_any z f hf2 (by omega) HM2.out).mono ?_; rintro e w3 ⟨rfl, hb3, hm3⟩))
  go_end0
  exact ⟨rfl, (hb1.trans hb2).trans hb3, hm3⟩
end Go.Proofs.YtjjbmbjmdgoofaaGreatDoor
