/-
  What the program's verifier does with its heights: heightAt, refuseInside, reach.
-/
import Derived.Test.YtkbbdfeobcklhaaGreatDoorVerQ
import Derived.Test.YtkbbdfeobcklhaaGreatDoorVerD
import Derived.Test.YtkbbdfeobcklhaaGreatDoorImgB
set_option linter.unusedVariables false
set_option linter.unusedSimpArgs false
namespace Go.Proofs.YtkbbdfeobcklhaaGreatDoor
open Go.RowKit

def verCells (s : ByteArray) (most : Nat) (hb : Nat) (wg : Bool) : Array Value := #[.string s, .int .i64 most, .slice (some ⟨hb, 0, none⟩) s.size s.size, .bool wg]
/-- The verifier in memory. -/
structure VSt (w : World) (vb hb : Nat) (s : ByteArray) (most : Nat) (H : Nat → Int) (wg : Bool) : Prop where
  st : Blk w vb (verCells s most hb wg) 133
  ht : Blk w hb (arrH H s.size) 3
  ne : hb ≠ vb
theorem VSt.below {w w' : World} {vb hb : Nat} {s : ByteArray} {most : Nat} {H : Nat → Int} {wg : Bool} (h : VSt w vb hb s most H wg) (hbl : Below w.heap.size w w') : VSt w' vb hb s most H wg :=
  ⟨h.st.below hbl h.st.lt, h.ht.below hbl h.ht.lt, h.ne⟩
theorem VSt.c0 {w : World} {vb hb : Nat} {s : ByteArray} {most : Nat} {H : Nat → Int} {wg : Bool} (h : VSt w vb hb s most H wg) : w.cell? ⟨vb, 0, none⟩ = some (.string s) := by rw [h.st.cell]; rfl
theorem VSt.c1 {w : World} {vb hb : Nat} {s : ByteArray} {most : Nat} {H : Nat → Int} {wg : Bool} (h : VSt w vb hb s most H wg) : w.cell? ⟨vb, 1, none⟩ = some (.int .i64 most) := by rw [h.st.cell]; rfl
theorem VSt.c2 {w : World} {vb hb : Nat} {s : ByteArray} {most : Nat} {H : Nat → Int} {wg : Bool} (h : VSt w vb hb s most H wg) : w.cell? ⟨vb, 2, none⟩ = some (.slice (some ⟨hb, 0, none⟩) s.size s.size) := by rw [h.st.cell]; rfl
theorem VSt.c3 {w : World} {vb hb : Nat} {s : ByteArray} {most : Nat} {H : Nat → Int} {wg : Bool} (h : VSt w vb hb s most H wg) : w.cell? ⟨vb, 3, none⟩ = some (.bool wg) := by rw [h.st.cell]; rfl
theorem VSt.cH {w : World} {vb hb : Nat} {s : ByteArray} {most : Nat} {H : Nat → Int} {wg : Bool} (h : VSt w vb hb s most H wg) (q : Nat) (hq : q < s.size) : w.cell? ⟨hb, q, none⟩ = some (.int .i64 (H q)) := by rw [h.ht.cell, arrH_get _ _ _ hq]
theorem VSt.wrong {w : World} {vb hb : Nat} {s : ByteArray} {most : Nat} {H : Nat → Int} {wg : Bool} (h : VSt w vb hb s most H wg) : VSt (w.setCell ⟨vb, 3, none⟩ (.bool true)) vb hb s most H true :=
  ⟨h.st.set 3 (.bool true), h.ht.other _ _ h.ne, h.ne⟩
theorem VSt.put {w : World} {vb hb : Nat} {s : ByteArray} {most : Nat} {H : Nat → Int} {wg : Bool} (h : VSt w vb hb s most H wg) (q : Nat) (a : Int) : VSt (w.setCell ⟨hb, q, none⟩ (.int .i64 a)) vb hb s most (upd H q a) wg :=
  ⟨h.st.other _ _ (Ne.symm h.ne), by have := h.ht.set q (.int .i64 a); rw [arrH_set] at this; exact this, h.ne⟩

set_option maxHeartbeats 1000000 in
theorem heightAt_any {w : World} {vb hb : Nat} {s : ByteArray} {most : Nat} {H : Nat → Int} {wg : Bool} (hs : s.size ≤ 4000) (q : Nat) (hq : q < s.size) (h : VSt w vb hb s most H wg) :
    Calls Tryz.prog 112 #[.pointer (some ⟨vb, 0, none⟩), .int .i64 q] w fun e w' => e = .returned (.int .i64 (H q)) ∧ w' = w := by
  have c2 := h.c2
  have cH := h.cH q hq
  clear h
  go_enter Tryz.func112, Tryz.ntmps112
  go_wp2
  go_ret
  exact ⟨rfl, rfl⟩
/-- What reach does to the heights and to the mark. -/
def reachH (s : ByteArray) (most : Nat) (H : Nat → Int) (q : Nat) (a : Int) : Nat → Int := if s.size ≤ q ∨ (most : Int) < a then H else upd H q a
def reachW (s : ByteArray) (most : Nat) (H : Nat → Int) (wg : Bool) (q : Nat) (a : Int) : Bool := wg || decide (s.size ≤ q ∨ (most : Int) < a ∨ (H q ≠ -1 ∧ H q ≠ a))
set_option maxHeartbeats 1000000 in
theorem reach_any {w : World} {vb hb : Nat} {s : ByteArray} {most : Nat} {H : Nat → Int} {wg : Bool} (hs : s.size ≤ 4000) (B : Nat) (hB : B ≤ vb ∧ B ≤ hb) (q : Nat) (a : Int) (h : VSt w vb hb s most H wg) :
    Calls Tryz.prog 74 #[.pointer (some ⟨vb, 0, none⟩), .int .i64 q, .int .i64 a] w fun e w' => e = .returned (.tuple #[]) ∧ VSt w' vb hb s most (reachH s most H q a) (reachW s most H wg q a) ∧ Below B w w' ∧ w'.heap.size = w.heap.size ∧ ∀ b, b ≠ vb → b ≠ hb → w'.heap[b]? = w.heap[b]? := by
  have c1 := h.c1
  have c2 := h.c2
  have f3 : w.frozen? ⟨vb, 3, none⟩ = false := h.st.free 3
  have c3 := h.c3
  have HV : Hid (VSt w vb hb s most H wg) := h
  clear h
  by_cases hq : s.size ≤ q
  · have HH : Hid (reachH s most H q a = H) := if_pos (.inl hq)
    have HW : Hid (reachW s most H wg q a = true) := (by unfold reachW; simp [hq] : _ = true)
    rw [HH.out, HW.out]
    go_enter Tryz.func74, Tryz.ntmps74
    go_wp2
    refine bodyPost_ret (results_none rfl _ _ _) rfl ?_
    exact ⟨rfl, HV.out.wrong, (Below.refl _ _).setCell (p := ⟨vb, 3, none⟩) hB.1 _, by simp, fun b h1 h2 => Below.heap_setCell _ _ _ _ h1⟩
  have cH := HV.out.cH q (by omega)
  have fH : w.frozen? ⟨hb, q, none⟩ = false := HV.out.ht.free q
  have hne : hb ≠ vb := HV.out.ne
  have hne' : vb ≠ hb := Ne.symm hne
  by_cases hm : (most : Int) < a
  · have HH : Hid (reachH s most H q a = H) := if_pos (.inr hm)
    have HW : Hid (reachW s most H wg q a = true) := (by unfold reachW; simp [hm] : _ = true)
    rw [HH.out, HW.out]
    go_enter Tryz.func74, Tryz.ntmps74
    go_wp2
    refine bodyPost_ret (results_none rfl _ _ _) rfl ?_
    exact ⟨rfl, HV.out.wrong, (Below.refl _ _).setCell (p := ⟨vb, 3, none⟩) hB.1 _, by simp, fun b h1 h2 => Below.heap_setCell _ _ _ _ h1⟩
  have HH : Hid (reachH s most H q a = upd H q a) := if_neg (by omega)
  rw [HH.out]
  by_cases hc : H q ≠ -1 ∧ H q ≠ a
  · have HW : Hid (reachW s most H wg q a = true) := (by unfold reachW; rw [decide_eq_true (.inr (.inr hc))]; simp : _ = true)
    rw [HW.out]
    have d1 : (H q == -1) = false := by simpa using hc.1
    have d2 : (H q == a) = false := by simpa using hc.2
    have d1' : (H q != -1) = true := by simp [bne, d1]
    have d2' : (H q != a) = true := by simp [bne, d2]
    clear hc
    go_enter Tryz.func74, Tryz.ntmps74
    go_wp2
    go_end0
    exact ⟨rfl, HV.out.wrong.put q a, ((Below.refl _ _).setCell (p := ⟨vb, 3, none⟩) hB.1 _).setCell (p := ⟨hb, q, none⟩) hB.2 _, by simp, fun b h1 h2 => (Below.heap_setCell _ _ _ _ h2).trans (Below.heap_setCell _ _ _ _ h1)⟩
  · have HW : Hid (reachW s most H wg q a = wg) := (by unfold reachW; rw [decide_eq_false (by omega)]; simp : _ = wg)
    rw [HW.out]
    by_cases e1 : H q = -1
    · have d1 : (H q == -1) = true := by simpa using e1
      have d1' : (H q != -1) = false := by simp [bne, d1]
      clear hc e1
      go_enter Tryz.func74, Tryz.ntmps74
      go_wp2
      go_end0
      exact ⟨rfl, HV.out.put q a, (Below.refl _ _).setCell (p := ⟨hb, q, none⟩) hB.2 _, by simp, fun b h1 h2 => Below.heap_setCell _ _ _ _ h2⟩
    · have d1 : (H q == -1) = false := by simpa using e1
      have d2 : (H q == a) = true := by simp; omega
      have d1' : (H q != -1) = true := by simp [bne, d1]
      have d2' : (H q != a) = false := by simp [bne, d2]
      clear hc e1
      go_enter Tryz.func74, Tryz.ntmps74
      go_wp2
      go_end0
      exact ⟨rfl, HV.out.put q a, (Below.refl _ _).setCell (p := ⟨hb, q, none⟩) hB.2 _, by simp, fun b h1 h2 => Below.heap_setCell _ _ _ _ h2⟩

/-- Is a byte from one place to ahead of another jumped at? -/
def insideW (H : Nat → Int) (wg : Bool) (f b : Nat) : Bool := wg || decide (∃ i, i < b ∧ f ≤ i ∧ H i ≠ -1)
theorem insideW_nil (H : Nat → Int) (wg : Bool) (f b : Nat) (h : b ≤ f) : insideW H wg f b = wg := by
  unfold insideW
  rw [decide_eq_false (by rintro ⟨i, h1, h2, _⟩; omega)]; simp
theorem insideW_cons (H : Nat → Int) (wg : Bool) (f b : Nat) (h : f < b) : insideW H wg f b = insideW H (wg || decide (H f ≠ -1)) (f + 1) b := by
  unfold insideW
  rw [Bool.eq_iff_iff]
  simp only [Bool.or_eq_true, decide_eq_true_eq]
  constructor
  · rintro (h1 | ⟨i, h1, h2, h3⟩)
    · exact .inl (.inl h1)
    · by_cases he : i = f
      · subst he; exact .inl (.inr h3)
      · exact .inr ⟨i, h1, by omega, h3⟩
  · rintro ((h1 | h1) | ⟨i, h1, h2, h3⟩)
    · exact .inl h1
    · exact .inr ⟨f, h, Nat.le_refl _, h1⟩
    · exact .inr ⟨i, h1, by omega, h3⟩
set_option maxHeartbeats 1000000 in
theorem refuseInside_any {w : World} {vb hb : Nat} {s : ByteArray} {most : Nat} {H : Nat → Int} {wg : Bool} (hs : s.size ≤ 4000) (B : Nat) (hB : B ≤ vb ∧ B ≤ hb) (f b : Nat) (hf : f ≤ b) (hbs : b ≤ s.size) (h : VSt w vb hb s most H wg) :
    Calls Tryz.prog 114 #[.pointer (some ⟨vb, 0, none⟩), .int .i64 f, .int .i64 b] w fun e w' => e = .returned (.tuple #[]) ∧ VSt w' vb hb s most H (insideW H wg f b) ∧ Below B w w' ∧ w'.heap.size = w.heap.size ∧ ∀ b, b ≠ vb → b ≠ hb → w'.heap[b]? = w.heap[b]? := by
  have HV : Hid (VSt w vb hb s most H wg) := h
  clear h
  go_enter Tryz.func114, Tryz.ntmps114
  go_wp2
  go_loopw [6] (fun vi wx => ∃ (i : Nat) (w2 : Bool), i ≤ b ∧ vi = .int .i64 i ∧ VSt wx vb hb s most H w2 ∧ Below B w wx ∧ wx.heap.size = w.heap.size ∧ (∀ b, b ≠ vb → b ≠ hb → wx.heap[b]? = w.heap[b]?) ∧ insideW H wg f b = insideW H w2 i b) (fun i _ => b - (intOf i).toNat)
  case atStart => exact ⟨f, wg, hf, rfl, HV.out, Below.refl _ _, rfl, fun _ _ _ => rfl, rfl⟩
  case round =>
    clear HV
    obtain ⟨i, w2, hib, rfl, hst, hbl, hsz, hot, hin⟩ := hrel
    have HOt : Hid (∀ b, b ≠ vb → b ≠ hb → wr.heap[b]? = w.heap[b]?) := hot
    clear hot
    have HV : Hid (VSt wr vb hb s most H w2) := hst
    have HI : Hid (insideW H wg f b = insideW H w2 i b) := hin
    clear hst hin
    by_cases hi : i < b
    case neg =>
      go_wp2
      go_end0
      have := insideW_nil H w2 i b (by omega)
      rw [HI.out, this]
      exact ⟨rfl, HV.out, hbl, hsz, HOt.out⟩
    have c3 := HV.out.c3
    have f3 : wr.frozen? ⟨vb, 3, none⟩ = false := HV.out.st.free 3
    have HC : Hid (insideW H wg f b = insideW H (w2 || decide (H i ≠ -1)) (i + 1) b) := (by rw [HI.out, insideW_cons H w2 i b hi] : _ = _)
    by_cases e1 : H i = -1
    · have d1 : (H i == -1) = true := by simpa using e1
      have d1' : (H i != -1) = false := by simp [bne, d1]
      have HE : Hid (decide (H i ≠ -1) = false) := (by simp [e1] : _ = false)
      clear e1
      go_wp2_with (go_at_call 112; refine (heightAt_any hs i (by omega) HV.out).mono ?_; rintro e w' ⟨rfl, rfl⟩)
      go_roundw
      case rel => exact ⟨i + 1, w2, by omega, by go_num, HV.out, hbl, hsz, HOt.out, by rw [HC.out, HE.out]; simp⟩
      case measure => simp [intOf]; omega
    · have d1 : (H i == -1) = false := by simpa using e1
      have d1' : (H i != -1) = true := by simp [bne, d1]
      have HE : Hid (decide (H i ≠ -1) = true) := (by simp [e1] : _ = true)
      clear e1
      go_wp2_with (go_at_call 112; refine (heightAt_any hs i (by omega) HV.out).mono ?_; rintro e w' ⟨rfl, rfl⟩)
      go_roundw
      case rel => exact ⟨i + 1, true, by omega, by go_num, HV.out.wrong, hbl.setCell (p := ⟨vb, 3, none⟩) hB.1 _, by simp [hsz], fun b h1 h2 => (Below.heap_setCell _ _ _ _ h1).trans (HOt.out b h1 h2), by rw [HC.out, HE.out]; simp⟩
      case measure => simp [intOf]; omega
end Go.Proofs.YtkbbdfeobcklhaaGreatDoor
