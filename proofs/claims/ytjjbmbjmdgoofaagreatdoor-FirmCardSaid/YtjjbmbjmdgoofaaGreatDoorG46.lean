/-
  What the check tells of the texts that slotskeep.policies tries; the policy that Firm loads.
-/
import Derived.Test.YtjjbmbjmdgoofaaGreatDoorG19
import Derived.Test.YtjjbmbjmdgoofaaGreatDoorG45
set_option linter.unusedVariables false
set_option linter.unusedSimpArgs false
namespace Go.Proofs.YtjjbmbjmdgoofaaGreatDoor
open Go.RowKit Go.Deep
theorem pin_of {s : Txt} {L R : List RSt} {n p : Nat} (hp : PolicyOf s L R) (he : errsOf (nodesS 0 (L ++ R)) (letsS 0 (L ++ R)) (rulesS 0 (L ++ R)) = (n, p)) : Pinned s n p := fun c' p' hs => by
  rcases hs with ⟨h1, _⟩ | ⟨L', R', n', hp', he', rfl⟩
  · rw [hp.fine] at h1; cases h1
  · obtain ⟨rfl, rfl⟩ := hp'.uniq hp
    rw [he] at he'
    cases he'
    exact ⟨rfl, rfl⟩
def wfL : List RSt → Prop
  | [] => True
  | s :: r => s.wf ∧ wfL r
theorem wfL_mem : ∀ {l : List RSt}, wfL l → ∀ x ∈ l, x.wf
  | [], _, x, hx => by cases hx
  | s :: r, h, x, hx => by
    rcases List.mem_cons.1 hx with rfl | hx
    · exact h.1
    · exact wfL_mem h.2 x hx
theorem policy_mk {s : Txt} {L R : List RSt} (h1 : tokened s = .fine (toksL (L ++ R))) (h2 : L.all RSt.isLet = true) (h3 : R.all (fun s => !s.isLet) = true) (h4 : wfL (L ++ R)) (h5 : (toksL (L ++ R)).all (fun t : RTok => mayT t.text) = true) (h6 : R ≠ []) (h7 : Nat.ble (toksL (L ++ R)).length 400 = true) : PolicyOf s L R :=
  ⟨h1, fun s hs => List.all_eq_true.1 h2 s hs, fun s hs => by have := List.all_eq_true.1 h3 s hs; simpa using this, wfL_mem h4, fun t ht => List.all_eq_true.1 h5 t ht, h6, Nat.le_of_ble_eq_true h7⟩
theorem lfW {t : RTok} (h : singleT t.text = true) (h2 : t.text ≠ cOpen) (h3 : t.text ≠ cClose) (h4 : unT t.text = false) (h5 : bindsT t.text = 0) : (Tr.leaf t).wf := ⟨⟨rfl, rfl, rfl, rfl⟩, h, h2, h3, h4, h5⟩
theorem biW {op : RTok} {l r : Tr} (h : 0 < bindsT op.text) (h2 : op.text ≠ cOpen) (h3 : op.text ≠ cClose) (h4 : bindsT op.text ≤ l.level) (h5 : bindsT op.text < r.level) (h6 : l.wf) (h7 : r.wf) : (Tr.bin op l r).wf := ⟨⟨rfl, rfl⟩, h, h2, h3, h4, h5, h6, h7⟩
def f0T : Txt := []
theorem f0_pin : Pinned f0T 3 0 := pinned_bad (by kernel_rfl)
def f1T : Txt := [115, 99, 111, 114, 101, 32, 49]
theorem f1_pin : Pinned f1T 3 7 := pinned_bad (by kernel_rfl)
def f2T : Txt := [115, 99, 111, 114, 101, 32, 49, 59, 32, 63]
theorem f2_pin : Pinned f2T 2 9 := pinned_bad (by kernel_rfl)
def f3T : Txt := [115, 99, 111, 114, 101, 32, 120, 59]
def f3L : List RSt := []
def f3R : List RSt := [RSt.rule none ⟨[115, 99, 111, 114, 101], 0⟩ (some (.leaf ⟨[120], 6⟩)) ⟨[59], 7⟩]
theorem f3_pol : PolicyOf f3T f3L f3R := policy_mk (by kernel_rfl) (by kernel_rfl) (by kernel_rfl) ⟨⟨(fun k e he => by cases he), rfl, (fun e he => by cases he; exact (lfW (by decide) (by decide) (by decide) (by decide) (by decide))), rfl⟩, trivial⟩ (by kernel_rfl) (by simp [f3R]) (by kernel_rfl)
theorem f3_pin : Pinned f3T 4 6 := pin_of (n := 4) f3_pol (by kernel_rfl)
def f4T : Txt := [108, 101, 116, 32, 97, 32, 61, 32, 49, 59, 32, 108, 101, 116, 32, 97, 32, 61, 32, 50, 59, 32, 114, 101, 106, 101, 99, 116, 59]
def f4L : List RSt := [RSt.letS ⟨[108, 101, 116], 0⟩ ⟨[97], 4⟩ ⟨[61], 6⟩ (.leaf ⟨[49], 8⟩) ⟨[59], 9⟩, RSt.letS ⟨[108, 101, 116], 11⟩ ⟨[97], 15⟩ ⟨[61], 17⟩ (.leaf ⟨[50], 19⟩) ⟨[59], 20⟩]
def f4R : List RSt := [RSt.rule none ⟨[114, 101, 106, 101, 99, 116], 22⟩ none ⟨[59], 28⟩]
theorem f4_pol : PolicyOf f4T f4L f4R := policy_mk (by kernel_rfl) (by kernel_rfl) (by kernel_rfl) ⟨⟨rfl, rfl, rfl, (lfW (by decide) (by decide) (by decide) (by decide) (by decide)), rfl⟩, ⟨rfl, rfl, rfl, (lfW (by decide) (by decide) (by decide) (by decide) (by decide)), rfl⟩, ⟨(fun k e he => by cases he), rfl, (fun e he => by cases he), rfl⟩, trivial⟩ (by kernel_rfl) (by simp [f4R]) (by kernel_rfl)
theorem f4_pin : Pinned f4T 4 15 := pin_of (n := 4) f4_pol (by kernel_rfl)
def f5T : Txt := [115, 99, 111, 114, 101, 32, 116, 114, 117, 101, 59]
def f5L : List RSt := []
def f5R : List RSt := [RSt.rule none ⟨[115, 99, 111, 114, 101], 0⟩ (some (.leaf ⟨[116, 114, 117, 101], 6⟩)) ⟨[59], 10⟩]
theorem f5_pol : PolicyOf f5T f5L f5R := policy_mk (by kernel_rfl) (by kernel_rfl) (by kernel_rfl) ⟨⟨(fun k e he => by cases he), rfl, (fun e he => by cases he; exact (lfW (by decide) (by decide) (by decide) (by decide) (by decide))), rfl⟩, trivial⟩ (by kernel_rfl) (by simp [f5R]) (by kernel_rfl)
theorem f5_pin : Pinned f5T 5 6 := pin_of (n := 5) f5_pol (by kernel_rfl)
def f6T : Txt := [119, 104, 101, 110, 32, 115, 105, 122, 101, 32, 115, 99, 111, 114, 101, 32, 49, 59]
def f6L : List RSt := []
def f6R : List RSt := [RSt.rule (some (⟨[119, 104, 101, 110], 0⟩, (.leaf ⟨[115, 105, 122, 101], 5⟩))) ⟨[115, 99, 111, 114, 101], 10⟩ (some (.leaf ⟨[49], 16⟩)) ⟨[59], 17⟩]
theorem f6_pol : PolicyOf f6T f6L f6R := policy_mk (by kernel_rfl) (by kernel_rfl) (by kernel_rfl) ⟨⟨(fun k e he => by cases he; exact ⟨rfl, (lfW (by decide) (by decide) (by decide) (by decide) (by decide))⟩), rfl, (fun e he => by cases he; exact (lfW (by decide) (by decide) (by decide) (by decide) (by decide))), rfl⟩, trivial⟩ (by kernel_rfl) (by simp [f6R]) (by kernel_rfl)
theorem f6_pin : Pinned f6T 5 5 := pin_of (n := 5) f6_pol (by kernel_rfl)
def f7T : Txt := [115, 99, 111, 114, 101, 32, 49, 32, 43, 32, 100, 114, 121, 59]
def f7L : List RSt := []
def f7R : List RSt := [RSt.rule none ⟨[115, 99, 111, 114, 101], 0⟩ (some (.bin ⟨[43], 8⟩ (.leaf ⟨[49], 6⟩) (.leaf ⟨[100, 114, 121], 10⟩))) ⟨[59], 13⟩]
theorem f7_pol : PolicyOf f7T f7L f7R := policy_mk (by kernel_rfl) (by kernel_rfl) (by kernel_rfl) ⟨⟨(fun k e he => by cases he), rfl, (fun e he => by cases he; exact (biW (by decide) (by decide) (by decide) (by decide) (by decide) (lfW (by decide) (by decide) (by decide) (by decide) (by decide)) (lfW (by decide) (by decide) (by decide) (by decide) (by decide)))), rfl⟩, trivial⟩ (by kernel_rfl) (by simp [f7R]) (by kernel_rfl)
theorem f7_pin : Pinned f7T 5 8 := pin_of (n := 5) f7_pol (by kernel_rfl)
def f8T : Txt := [108, 101, 116, 32, 98, 32, 61, 32, 98, 59, 32, 115, 99, 111, 114, 101, 32, 49, 59]
def f8L : List RSt := [RSt.letS ⟨[108, 101, 116], 0⟩ ⟨[98], 4⟩ ⟨[61], 6⟩ (.leaf ⟨[98], 8⟩) ⟨[59], 9⟩]
def f8R : List RSt := [RSt.rule none ⟨[115, 99, 111, 114, 101], 11⟩ (some (.leaf ⟨[49], 17⟩)) ⟨[59], 18⟩]
theorem f8_pol : PolicyOf f8T f8L f8R := policy_mk (by kernel_rfl) (by kernel_rfl) (by kernel_rfl) ⟨⟨rfl, rfl, rfl, (lfW (by decide) (by decide) (by decide) (by decide) (by decide)), rfl⟩, ⟨(fun k e he => by cases he), rfl, (fun e he => by cases he; exact (lfW (by decide) (by decide) (by decide) (by decide) (by decide))), rfl⟩, trivial⟩ (by kernel_rfl) (by simp [f8R]) (by kernel_rfl)
theorem f8_pin : Pinned f8T 4 8 := pin_of (n := 4) f8_pol (by kernel_rfl)
def f9T : Txt := [114, 101, 106, 101, 99, 116, 59, 32, 108, 101, 116, 32, 97, 32, 61, 32, 49, 59]
theorem f9_pin : Pinned f9T 3 8 := pinned_bad (by kernel_rfl)
def f10T : Txt := [115, 99, 111, 114, 101, 32, 40, 40, 40, 40, 40, 40, 40, 40, 40, 32, 49, 32, 41, 41, 41, 41, 41, 41, 41, 41, 41, 59]
theorem f10_pin : Pinned f10T 3 14 := pinned_bad (by kernel_rfl)
def f11T : Txt := [115, 99, 111, 114, 101, 32, 49, 50, 51, 52, 53, 54, 55, 56, 57, 48, 49, 50, 51, 52, 53, 54, 55, 56, 57, 59]
theorem f11_pin : Pinned f11T 2 6 := pinned_bad (by kernel_rfl)
def fbT : Txt := [108, 101, 116, 32, 97, 32, 61, 32, 115, 105, 122, 101, 32, 43, 32, 115, 105, 122, 101, 32, 43, 32, 115, 105, 122, 101, 32, 43, 32, 115, 105, 122, 101, 59, 32, 108, 101, 116, 32, 98, 32, 61, 32, 97, 32, 43, 32, 97, 32, 43, 32, 97, 32, 43, 32, 97, 59, 32, 108, 101, 116, 32, 99, 32, 61, 32, 98, 32, 43, 32, 98, 32, 43, 32, 98, 32, 43, 32, 98, 59, 32, 115, 99, 111, 114, 101, 32, 99, 32, 43, 32, 99, 59]
def fbL : List RSt := [RSt.letS ⟨[108, 101, 116], 0⟩ ⟨[97], 4⟩ ⟨[61], 6⟩ (.bin ⟨[43], 27⟩ (.bin ⟨[43], 20⟩ (.bin ⟨[43], 13⟩ (.leaf ⟨[115, 105, 122, 101], 8⟩) (.leaf ⟨[115, 105, 122, 101], 15⟩)) (.leaf ⟨[115, 105, 122, 101], 22⟩)) (.leaf ⟨[115, 105, 122, 101], 29⟩)) ⟨[59], 33⟩, RSt.letS ⟨[108, 101, 116], 35⟩ ⟨[98], 39⟩ ⟨[61], 41⟩ (.bin ⟨[43], 53⟩ (.bin ⟨[43], 49⟩ (.bin ⟨[43], 45⟩ (.leaf ⟨[97], 43⟩) (.leaf ⟨[97], 47⟩)) (.leaf ⟨[97], 51⟩)) (.leaf ⟨[97], 55⟩)) ⟨[59], 56⟩, RSt.letS ⟨[108, 101, 116], 58⟩ ⟨[99], 62⟩ ⟨[61], 64⟩ (.bin ⟨[43], 76⟩ (.bin ⟨[43], 72⟩ (.bin ⟨[43], 68⟩ (.leaf ⟨[98], 66⟩) (.leaf ⟨[98], 70⟩)) (.leaf ⟨[98], 74⟩)) (.leaf ⟨[98], 78⟩)) ⟨[59], 79⟩]
def fbR : List RSt := [RSt.rule none ⟨[115, 99, 111, 114, 101], 81⟩ (some (.bin ⟨[43], 89⟩ (.leaf ⟨[99], 87⟩) (.leaf ⟨[99], 91⟩))) ⟨[59], 92⟩]
theorem fb_pol : PolicyOf fbT fbL fbR := policy_mk (by kernel_rfl) (by kernel_rfl) (by kernel_rfl) ⟨⟨rfl, rfl, rfl, (biW (by decide) (by decide) (by decide) (by decide) (by decide) (biW (by decide) (by decide) (by decide) (by decide) (by decide) (biW (by decide) (by decide) (by decide) (by decide) (by decide) (lfW (by decide) (by decide) (by decide) (by decide) (by decide)) (lfW (by decide) (by decide) (by decide) (by decide) (by decide))) (lfW (by decide) (by decide) (by decide) (by decide) (by decide))) (lfW (by decide) (by decide) (by decide) (by decide) (by decide))), rfl⟩, ⟨rfl, rfl, rfl, (biW (by decide) (by decide) (by decide) (by decide) (by decide) (biW (by decide) (by decide) (by decide) (by decide) (by decide) (biW (by decide) (by decide) (by decide) (by decide) (by decide) (lfW (by decide) (by decide) (by decide) (by decide) (by decide)) (lfW (by decide) (by decide) (by decide) (by decide) (by decide))) (lfW (by decide) (by decide) (by decide) (by decide) (by decide))) (lfW (by decide) (by decide) (by decide) (by decide) (by decide))), rfl⟩, ⟨rfl, rfl, rfl, (biW (by decide) (by decide) (by decide) (by decide) (by decide) (biW (by decide) (by decide) (by decide) (by decide) (by decide) (biW (by decide) (by decide) (by decide) (by decide) (by decide) (lfW (by decide) (by decide) (by decide) (by decide) (by decide)) (lfW (by decide) (by decide) (by decide) (by decide) (by decide))) (lfW (by decide) (by decide) (by decide) (by decide) (by decide))) (lfW (by decide) (by decide) (by decide) (by decide) (by decide))), rfl⟩, ⟨(fun k e he => by cases he), rfl, (fun e he => by cases he; exact (biW (by decide) (by decide) (by decide) (by decide) (by decide) (lfW (by decide) (by decide) (by decide) (by decide) (by decide)) (lfW (by decide) (by decide) (by decide) (by decide) (by decide)))), rfl⟩, trivial⟩ (by kernel_rfl) (by simp [fbR]) (by kernel_rfl)
theorem fb_pin : Pinned fbT 6 0 := pin_of (n := 6) fb_pol (by kernel_rfl)
def fsT : Txt := [108, 101, 116, 32, 97, 32, 61, 32, 115, 105, 122, 101, 32, 43, 32, 115, 105, 122, 101, 32, 43, 32, 115, 105, 122, 101, 32, 43, 32, 115, 105, 122, 101, 59, 32, 108, 101, 116, 32, 98, 32, 61, 32, 97, 32, 43, 32, 97, 32, 43, 32, 97, 32, 43, 32, 97, 59, 32, 108, 101, 116, 32, 99, 32, 61, 32, 98, 32, 43, 32, 98, 32, 43, 32, 98, 32, 43, 32, 98, 59, 32, 115, 99, 111, 114, 101, 32, 99, 59]
def fsL : List RSt := [RSt.letS ⟨[108, 101, 116], 0⟩ ⟨[97], 4⟩ ⟨[61], 6⟩ (.bin ⟨[43], 27⟩ (.bin ⟨[43], 20⟩ (.bin ⟨[43], 13⟩ (.leaf ⟨[115, 105, 122, 101], 8⟩) (.leaf ⟨[115, 105, 122, 101], 15⟩)) (.leaf ⟨[115, 105, 122, 101], 22⟩)) (.leaf ⟨[115, 105, 122, 101], 29⟩)) ⟨[59], 33⟩, RSt.letS ⟨[108, 101, 116], 35⟩ ⟨[98], 39⟩ ⟨[61], 41⟩ (.bin ⟨[43], 53⟩ (.bin ⟨[43], 49⟩ (.bin ⟨[43], 45⟩ (.leaf ⟨[97], 43⟩) (.leaf ⟨[97], 47⟩)) (.leaf ⟨[97], 51⟩)) (.leaf ⟨[97], 55⟩)) ⟨[59], 56⟩, RSt.letS ⟨[108, 101, 116], 58⟩ ⟨[99], 62⟩ ⟨[61], 64⟩ (.bin ⟨[43], 76⟩ (.bin ⟨[43], 72⟩ (.bin ⟨[43], 68⟩ (.leaf ⟨[98], 66⟩) (.leaf ⟨[98], 70⟩)) (.leaf ⟨[98], 74⟩)) (.leaf ⟨[98], 78⟩)) ⟨[59], 79⟩]
def fsR : List RSt := [RSt.rule none ⟨[115, 99, 111, 114, 101], 81⟩ (some (.leaf ⟨[99], 87⟩)) ⟨[59], 88⟩]
theorem fs_pol : PolicyOf fsT fsL fsR := policy_mk (by kernel_rfl) (by kernel_rfl) (by kernel_rfl) ⟨⟨rfl, rfl, rfl, (biW (by decide) (by decide) (by decide) (by decide) (by decide) (biW (by decide) (by decide) (by decide) (by decide) (by decide) (biW (by decide) (by decide) (by decide) (by decide) (by decide) (lfW (by decide) (by decide) (by decide) (by decide) (by decide)) (lfW (by decide) (by decide) (by decide) (by decide) (by decide))) (lfW (by decide) (by decide) (by decide) (by decide) (by decide))) (lfW (by decide) (by decide) (by decide) (by decide) (by decide))), rfl⟩, ⟨rfl, rfl, rfl, (biW (by decide) (by decide) (by decide) (by decide) (by decide) (biW (by decide) (by decide) (by decide) (by decide) (by decide) (biW (by decide) (by decide) (by decide) (by decide) (by decide) (lfW (by decide) (by decide) (by decide) (by decide) (by decide)) (lfW (by decide) (by decide) (by decide) (by decide) (by decide))) (lfW (by decide) (by decide) (by decide) (by decide) (by decide))) (lfW (by decide) (by decide) (by decide) (by decide) (by decide))), rfl⟩, ⟨rfl, rfl, rfl, (biW (by decide) (by decide) (by decide) (by decide) (by decide) (biW (by decide) (by decide) (by decide) (by decide) (by decide) (biW (by decide) (by decide) (by decide) (by decide) (by decide) (lfW (by decide) (by decide) (by decide) (by decide) (by decide)) (lfW (by decide) (by decide) (by decide) (by decide) (by decide))) (lfW (by decide) (by decide) (by decide) (by decide) (by decide))) (lfW (by decide) (by decide) (by decide) (by decide) (by decide))), rfl⟩, ⟨(fun k e he => by cases he), rfl, (fun e he => by cases he; exact (lfW (by decide) (by decide) (by decide) (by decide) (by decide))), rfl⟩, trivial⟩ (by kernel_rfl) (by simp [fsR]) (by kernel_rfl)
theorem fs_pin : Pinned fsT 0 0 := pin_of (n := 0) fs_pol (by kernel_rfl)
def polT (i : Nat) : Txt := ([f0T, f1T, f2T, f3T, f4T, f5T, f6T, f7T, f8T, f9T, f10T, f11T] : List Txt).getD i []
def polC (i : Nat) : Nat := ([3, 3, 2, 4, 4, 5, 5, 5, 4, 3, 3, 2] : List Nat).getD i 0
def polP (i : Nat) : Nat := ([0, 7, 9, 6, 15, 6, 5, 8, 8, 8, 14, 6] : List Nat).getD i 0
theorem below12 {P : Nat → Prop} (h0 : P 0) (h1 : P 1) (h2 : P 2) (h3 : P 3) (h4 : P 4) (h5 : P 5) (h6 : P 6) (h7 : P 7) (h8 : P 8) (h9 : P 9) (h10 : P 10) (h11 : P 11) : ∀ i, i < 12 → P i := fun i hi => by
  match i, hi with
  | 0, _ => exact h0
  | 1, _ => exact h1
  | 2, _ => exact h2
  | 3, _ => exact h3
  | 4, _ => exact h4
  | 5, _ => exact h5
  | 6, _ => exact h6
  | 7, _ => exact h7
  | 8, _ => exact h8
  | 9, _ => exact h9
  | 10, _ => exact h10
  | 11, _ => exact h11
theorem pol_pin : ∀ i, i < 12 → Pinned (polT i) (polC i) (polP i) := below12 f0_pin f1_pin f2_pin f3_pin f4_pin f5_pin f6_pin f7_pin f8_pin f9_pin f10_pin f11_pin
theorem pol_code : ∀ i, i < 12 → (polC i : Int) ≠ 0 := below12 (by decide) (by decide) (by decide) (by decide) (by decide) (by decide) (by decide) (by decide) (by decide) (by decide) (by decide) (by decide)
theorem pol_len : ∀ i, i < 12 → (bsOf (polT i)).size ≤ maxLen := below12 (by decide) (by decide) (by decide) (by decide) (by decide) (by decide) (by decide) (by decide) (by decide) (by decide) (by decide) (by decide)
def fzT : Txt := [115, 99, 111, 114, 101, 32, 122, 111, 110, 101, 32, 42, 32, 49, 48, 48, 32, 45, 32, 117, 115, 101, 100, 59]
def fzL : List RSt := []
def fzR : List RSt := [RSt.rule none ⟨[115, 99, 111, 114, 101], 0⟩ (some (.bin ⟨[45], 17⟩ (.bin ⟨[42], 11⟩ (.leaf ⟨[122, 111, 110, 101], 6⟩) (.leaf ⟨[49, 48, 48], 13⟩)) (.leaf ⟨[117, 115, 101, 100], 19⟩))) ⟨[59], 23⟩]
theorem fz_pol : PolicyOf fzT fzL fzR := policy_mk (by kernel_rfl) (by kernel_rfl) (by kernel_rfl) ⟨⟨(fun k e he => by cases he), rfl, (fun e he => by cases he; exact (biW (by decide) (by decide) (by decide) (by decide) (by decide) (biW (by decide) (by decide) (by decide) (by decide) (by decide) (lfW (by decide) (by decide) (by decide) (by decide) (by decide)) (lfW (by decide) (by decide) (by decide) (by decide) (by decide))) (lfW (by decide) (by decide) (by decide) (by decide) (by decide)))), rfl⟩, trivial⟩ (by kernel_rfl) (by simp [fzR]) (by kernel_rfl)
def fzB : ByteArray := { data := #[115, 99, 111, 114, 101, 32, 122, 111, 110, 101, 32, 42, 32, 49, 48, 48, 32, 45, 32, 117, 115, 101, 100, 59] }
theorem fzB_list : fzB.toList = fzT := bsOf_toList fzT
def fzN : List PNode := nodesS 0 (fzL ++ fzR)
def fzU : List PRule := rulesS 0 (fzL ++ fzR)
theorem fz_known : KnownP fzT fzN [] fzU :=
  ⟨⟨fzL, fzR, fz_pol, rfl, by kernel_rfl, rfl⟩, by kernel_rfl, Nat.le_of_ble_eq_true (by kernel_rfl), Nat.le_of_ble_eq_true (by kernel_rfl)⟩
theorem two_ch (n : Nat) (p q : PB) : (twoP n p q).code = p.code ++ q.code ++ [n] ∧ (twoP n p q).high = maxN p.high (q.high + 1) := by
  unfold twoP
  (repeat' split) <;> exact ⟨rfl, rfl⟩
def fzP (x : Itm) (y : Bn) : PB := twoP 5 (twoP 6 (leafA 3 x y) (leafI 100)) (leafA 5 x y)
def fzI : ByteArray := bsN (imageC fzN [] fzU)
theorem fz_img (x : Itm) (y : Bn) : fzI = bsN (imgC (fzP x y).high ((fzP x y).code ++ [16])) := by
  have e : imageC fzN [] fzU = [83, 76, 2, 1, 3, 0, 100, 0, 0, 0, 0, 0, 0, 0, 6, 1, 5, 5, 16] := by kernel_rfl
  have e2 := two_ch 5 (twoP 6 (leafA 3 x y) (leafI 100)) (leafA 5 x y)
  have e3 := two_ch 6 (leafA 3 x y) (leafI 100)
  unfold fzI fzP
  rw [e, e2.1, e2.2, e3.1, e3.2]
  rfl
theorem fzI_some : fzI.toList.isEmpty = false := by kernel_rfl
theorem fz_scores {x : Itm} (hx : x.Ok) {y : Bn} (hy : y.Ok) : ScoresAt fzI x (fun y => (fzP x y).v) y := by
  intro wx hg
  have hz : attrN (3 : Nat) x y = y.zone := rfl
  have hu : attrN (5 : Nat) x y = y.used := rfl
  obtain ⟨h1, h2, h3, h4, h5⟩ := hy
  have j1 : joinN 6 y.zone 100 = (y.zone * 100, 0) := by
    rw [join6, exact64, if_pos (by unfold In64; omega)]
  have j2 : joinN 5 (y.zone * 100) y.used = (y.zone * 100 - y.used, 0) := by
    rw [join5, exact64, if_pos (by unfold In64; omega)]
  have t1 : (twoP 6 (leafA 3 x y) (leafI 100)).flt = 0 ∧ (twoP 6 (leafA 3 x y) (leafI 100)).v = y.zone * 100 ∧ (twoP 6 (leafA 3 x y) (leafI 100)).steps = 3 := by
    unfold twoP leafI leafA
    simp only [ne_eq, not_true_eq_false, if_false]
    rw [hz, j1]
    refine ⟨?_, ?_, ?_⟩ <;> first | rfl | trivial
  have t2 : (fzP x y).flt = 0 ∧ (fzP x y).steps = 5 := by
    unfold fzP
    rw [twoP, if_neg (by rw [t1.1]; simp), if_neg (by unfold leafA; simp)]
    simp only
    rw [t1.2.1, t1.2.2]
    show (joinN 5 (y.zone * 100) (attrN (5 : Nat) x y)).2 = 0 ∧ _
    rw [hu, j2]
    exact ⟨rfl, rfl⟩
  have e2 := two_ch 5 (twoP 6 (leafA 3 x y) (leafI 100)) (leafA 5 x y)
  have e3 := two_ch 6 (leafA 3 x y) (leafI 100)
  have hc : (fzP x y).code = [1, 3, 0, 100, 0, 0, 0, 0, 0, 0, 0, 6, 1, 5, 5] := by unfold fzP; rw [e2.1, e3.1]; rfl
  have hh : (fzP x y).high = 2 := by unfold fzP; rw [e2.2, e3.2]; rfl
  refine scores_of hx ⟨h1, h2, h3, h4, h5⟩ (twoP_ok (twoP_ok (leafA_ok hx ⟨h1, h2, h3, h4, h5⟩ (by omega)) (leafI_ok (by decide)) ⟨by omega, by omega⟩) (leafA_ok hx ⟨h1, h2, h3, h4, h5⟩ (by omega)) ⟨by omega, by omega⟩) t2.1 ?_ ?_ ?_ ?_ (fz_img x y) wx hg
  · show ∀ z ∈ imgC (fzP x y).high ((fzP x y).code ++ [16]), z < 256
    rw [hc, hh]
    decide
  · show 1 ≤ (fzP x y).code.length
    rw [hc]; decide
  · show (fzP x y).code.length ≤ 3000
    rw [hc]; decide
  · show (fzP x y).steps ≤ (fzP x y).code.length
    rw [t2.2, hc]; decide
end Go.Proofs.YtjjbmbjmdgoofaaGreatDoor
