/-
  The document's Sound: are some bytes an image? And its operations, if they are.
-/
import Derived.Test.YtkbbdfeobcklhaaGreatDoorVerD
set_option linter.unusedVariables false
set_option linter.unusedSimpArgs false
namespace Go.Proofs.YtkbbdfeobcklhaaGreatDoor
open Go.RowKit

theorem chain_pos {s : ByteArray} {l : List Ins} (hh : HeadOk s) (hc : Chain s 3 l s.size) : 0 < l.length := by
  cases l with
  | nil => have : 3 = s.size := hc; have := hh.1; omega
  | cons a r => simp
theorem chain_same {s : ByteArray} {l l' : List Ins} (h : Chain s 3 l s.size) (h' : Chain s 3 l' s.size) : l = l' := by
  obtain ⟨r, rfl, hr⟩ := h.pre h'
  cases r with
  | nil => simp
  | cons o r => have := hr.1.1; omega
set_option maxHeartbeats 1000000 in
theorem Sound_any (s : ByteArray) (w : World) :
    Calls Tryz.prog 18 #[.string s] w fun e w' => Below w.heap.size w w' ∧
      ((IsImg s ∧ ∃ l v, Chain s 3 l s.size ∧ l.length ≤ 4000 ∧ e = .returned (.tuple #[v, .bool true]) ∧ Reads w' v l.length (cellsV l)) ∨
       (¬ IsImg s ∧ ∃ v, e = .returned (.tuple #[v, .bool false]))) := by
  by_cases h2 : 2 < s.size
  · have hix := fun wx => run_index_nat (P := Tryz.prog) wx 9 s .i64 2 2 Tryz.underlying9 rfl h2
    have HB : Hid (s[2].toNat = bt s 2) := (bt_get s 2 h2).symm
    obtain ⟨c, hc⟩ : ∃ c, c = s[2].toNat := ⟨_, rfl⟩
    have hc256 : c < 256 := by rw [hc]; exact UInt8.toNat_lt _
    have HBC : Hid (bt s 2 = c) := (by rw [hc, HB.out] : bt s 2 = c)
    rw [← hc] at hix
    clear hc
    go_enter Tryz.func18, Tryz.ntmps18
    go_wp2_with (first | (go_at_call 39; refine (Operations_any s _).mono ?_; rintro e w1 ⟨hb1, ⟨hh, l, v, hch, hl4, rfl, hown⟩ | ⟨hno, rfl⟩⟩) | (go_at_call 40; refine (Heights_any s hh.2.1 l hch (chain_pos hh hch) hl4 c hc256 _ _ (reads_of_own hown)).mono ?_; rintro e w2 ⟨hb2, ⟨hG, u, rfl⟩ | ⟨hG, rfl⟩⟩))
    · go_ret2
      obtain ⟨G, hG⟩ := hG
      exact ⟨hb1.trans (hb2.mono hb1.size), .inl ⟨⟨hh, l, hch, G, by rw [HBC.out]; exact hG⟩, l, _, hch, hl4, rfl, (reads_of_own hown).below hb2⟩⟩
    · go_ret2
      exact ⟨hb1.trans (hb2.mono hb1.size), .inr ⟨fun ⟨_, l', hc', G, hl⟩ => by
        have := chain_same hch hc'
        subst this
        rw [HBC.out] at hl
        exact hG G hl, _, rfl⟩⟩
    · go_ret2
      exact ⟨hb1, .inr ⟨fun ⟨hh, l', hc', G, hl⟩ => by
        rcases hno with h | h
        · exact h hh
        · exact h l' hc', _, rfl⟩⟩
  · have hnh : Hid (¬ HeadOk s) := fun h => by have := h.1; omega
    go_enter Tryz.func18, Tryz.ntmps18
    go_wp2_with (go_at_call 39; refine (Operations_any s _).mono ?_; rintro e w1 ⟨hb1, hor⟩; obtain ⟨_, rfl⟩ := hor.resolve_left (fun h => hnh.out h.1))
    go_ret2
    exact ⟨hb1, .inr ⟨fun h => hnh.out h.1, _, rfl⟩⟩
end Go.Proofs.YtkbbdfeobcklhaaGreatDoor
