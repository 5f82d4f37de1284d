/-
  Check, held against the document: checked answers true.
-/
import Derived.Test.YtblfeahabbghmaaGreatDoorMK
import Derived.Test.YtblfeahabbghmaaGreatDoorMP
set_option linter.unusedVariables false
set_option linter.unusedSimpArgs false
namespace Go.Proofs.YtblfeahabbghmaaGreatDoor
open Go.RowKit Go.Deep

theorem policy_may {s : Txt} {L R : List RSt} (h : PolicyOf s L R) : ∀ x ∈ L ++ R, x.wf ∧ x.may := by
  intro x hx
  refine ⟨h.wf x hx, fun t ht => h.may t ?_⟩
  rw [toksL, List.mem_flatMap]
  exact ⟨x, hx, by rw [RSt.toks]; simp [ht]⟩
theorem check_same {s : Txt} {L R : List RSt} (h : PolicyOf s L R) {n p : Nat} (he : errsOf (nodesS 0 (L ++ R)) (letsS 0 (L ++ R)) (rulesS 0 (L ++ R)) = (n, p)) : checkOf L R = ((n : Int), (p : Int)) := by
  have h1 := names_same L R h.lets h.rules h.wf
  unfold errsOf at he
  unfold checkOf
  rw [h1]
  cases hn : pNames (nodesS 0 (L ++ R)) (letsS 0 (L ++ R)) (rulesS 0 (L ++ R)) with
  | some q =>
    rw [hn] at he
    simp only [Prod.mk.injEq] at he
    obtain ⟨rfl, rfl⟩ := he
    rfl
  | none =>
    rw [hn] at he
    have h2 := kinds_same L R h.lets h.rules (policy_may h) hn
    have h3 := parts_same L R h.lets h.rules (policy_may h) hn
    simp only at he ⊢
    rw [← h2, ← h3]
    cases hk : pKinds (nodesS 0 (L ++ R)) (letsS 0 (L ++ R)) (rulesS 0 (L ++ R)) with
    | some q =>
      rw [hk] at he
      simp only [Prod.mk.injEq] at he
      obtain ⟨rfl, rfl⟩ := he
      rfl
    | none =>
      rw [hk] at he
      simp only at he ⊢
      by_cases hp : pParts (nodesS 0 (L ++ R)) (letsS 0 (L ++ R)) (rulesS 0 (L ++ R)) > 150
      · rw [if_pos hp] at he
        rw [if_pos (by simpa using hp)]
        cases he; rfl
      · rw [if_neg hp] at he
        rw [if_neg (by simpa using hp)]
        cases he; rfl
theorem Check_ref (s : ByteArray) (w : World) {c : Int} {p : Nat} (h : SoundAs s.toList c p) :
    Calls Tryz.prog 60 #[.string s] w fun e w' => (∃ a1 l1 c1 a2 l2 c2 a3 l3 c3, e = .returned (.tuple #[.agg #[.slice a1 l1 c1, .slice a2 l2 c2, .slice a3 l3 c3], .int .i64 c, .int .i64 p])) ∧ Below w.heap.size w w' := by
  rcases h with ⟨ht, hc⟩ | ⟨L, R, n, hp, he, hcn⟩
  · exact Check_bad s w c p ht hc
  · have hs := check_same hp he
    have hne : 0 < (toksL (L ++ R)).length := by
      have h1 := toksL_le (L ++ R)
      cases hR : R with
      | nil => exact absurd hR hp.ne
      | cons a r => rw [toksL_append, toksL_cons, List.length_append, List.length_append, RSt.toks_length]; omega
    have := Check_fine s w L R ⟨hp.fine, hp.lets, hp.rules, hp.wf⟩ hne
    rw [hs] at this
    subst hcn
    exact this
set_option maxHeartbeats 1000000 in
theorem checked_any (s : ByteArray) (w : World) (hg : GlobT w) (hz : s.size ≤ maxLen) :
    Calls Tryz.prog 34 #[.string s] w fun e w' => Below w.heap.size w w' ∧ e = .returned (.bool true) := by
  have HG := hideP hg
  have HSZ := hideP hz
  clear hg hz
  go_enter Tryz.func34, Tryz.ntmps34
  go_wp2_with (first | (go_at_call 17; refine (Check_prog s _ HG.out HSZ.out).mono ?_; rintro e w1 ⟨hb1, c, p, hs, rfl⟩; have HB1 := hideP hb1; have HS := hideP hs; clear hb1 hs) | (go_at_call 60; refine (Check_ref s _ HS.out).mono ?_; rintro e w2 ⟨⟨a1, l1, c1, a2, l2, c2, a3, l3, c3, rfl⟩, hb2⟩; have HB2 := hideP hb2; clear hb2))
  go_ret
  exact ⟨(HB1.out.trans (HB2.out.mono HB1.out.size)).trans ((new_below w2 _).mono (HB1.out.trans (HB2.out.mono HB1.out.size)).size), rfl⟩
end Go.Proofs.YtblfeahabbghmaaGreatDoor
