/-
  The policy that rejects, as it is read.
  A policy with which nothing is wrong, as it is read.
-/
import Derived.Test.YtffpmkgjnjdbaabGreatDoorMK
set_option linter.unusedVariables false
set_option linter.unusedSimpArgs false
namespace Go.Proofs.YtffpmkgjnjdbaabGreatDoor
open Go.RowKit

/-- The text of the policy that rejects. -/
def rejT : Txt := [114, 101, 106, 101, 99, 116, 59]
theorem rej_fine : tokened rejT = .fine [⟨[114, 101, 106, 101, 99, 116], 0⟩, ⟨[59], 6⟩] := by kernel_rfl
theorem RSt.toks_two (s : RSt) : 2 ≤ s.toks.length := by
  have := s.body_pos
  rw [s.toks_length]; omega
theorem rej_pol {L R : List RSt} (h : PolicyOf rejT L R) : ∃ act semi, L = [] ∧ R = [RSt.rule none act none semi] := by
  have hf := h.fine
  rw [rej_fine] at hf
  have ht : toksL (L ++ R) = [⟨[114, 101, 106, 101, 99, 116], 0⟩, ⟨[59], 6⟩] := (Except.ok.inj hf).symm
  have hl : (toksL (L ++ R)).length = 2 := by rw [ht]; rfl
  rw [toksL_append, List.length_append] at hl
  have hL : L = [] := by
    cases L with
    | nil => rfl
    | cons s r =>
      have hs := h.lets s List.mem_cons_self
      rcases s.cases with ⟨kw, name, eq, e, semi, rfl⟩ | ⟨wh, act, sc, semi, rfl⟩
      · rw [toksL_cons, List.length_append, RSt.toks_length, RSt.body_let] at hl
        simp at hl
        have := e.toks_pos
        omega
      · cases hs
  subst hL
  cases R with
  | nil => exact absurd rfl h.ne
  | cons s r =>
    have hs := h.rules s List.mem_cons_self
    rcases s.cases with ⟨kw, name, eq, e, semi, rfl⟩ | ⟨wh, act, sc, semi, rfl⟩
    · cases hs
    · rw [toksL_cons, List.length_append] at hl
      have h2 := RSt.toks_two (RSt.rule wh act sc semi)
      have hr : r = [] := by
        cases r with
        | nil => rfl
        | cons t r =>
          rw [toksL_cons, List.length_append] at hl
          have := t.toks_two
          simp [toksL] at hl
          omega
      subst hr
      rw [RSt.toks_length, RSt.body_rule, List.length_append] at hl
      simp [toksL] at hl
      have hw : wh = none := by
        cases wh with
        | none => rfl
        | some k => obtain ⟨k, e⟩ := k; simp [whToks] at hl; omega
      have hc : sc = none := by
        cases sc with
        | none => rfl
        | some e => have := e.toks_pos; simp [optToks] at hl; omega
      subst hw hc
      exact ⟨act, semi, rfl, rfl⟩
theorem rej_parts (act semi : RTok) : nodesS 0 ([] ++ [RSt.rule none act none semi]) = [] ∧ letsS 0 ([] ++ [RSt.rule none act none semi]) = [] ∧ ∃ w s, rulesS 0 ([] ++ [RSt.rule none act none semi]) = [⟨false, w, false, s⟩] := by
  refine ⟨rfl, rfl, _, _, rfl⟩
end Go.Proofs.YtffpmkgjnjdbaabGreatDoor

set_option linter.unusedVariables false
set_option linter.unusedSimpArgs false
namespace Go.Proofs.YtffpmkgjnjdbaabGreatDoor
open Go.RowKit

theorem Read_pol (s : ByteArray) (w : World) (hg : GlobT w) (hz : s.size ≤ maxLen) {l : List RTok} (h : tokened s.toList = .fine l) :
    Calls Tryz.prog 66 #[.string s] w fun e w' => Below w.heap.size w w' ∧ ∃ L R na nc la lc ra rc, PolicyOf s.toList L R ∧ e = .returned (.tuple #[.agg #[.slice na (nodesS 0 (L ++ R)).length nc, .slice la (letsS 0 (L ++ R)).length lc, .slice ra (rulesS 0 (L ++ R)).length rc], .int .i64 0, .int .i64 0]) ∧ PolMem w' w.heap.size (.slice na (nodesS 0 (L ++ R)).length nc) (.slice la (letsS 0 (L ++ R)).length lc) (.slice ra (rulesS 0 (L ++ R)).length rc) L R := by
  refine (Read_any s w hg hz).mono ?_
  rintro e w' ⟨hb, ⟨c', p', ht, hc, rfl⟩ | ⟨L, R, nv, lv, rv, hp, rfl, hm⟩⟩
  · rw [h] at ht; cases ht
  · have hpa := PolAt.of hm hp
    obtain ⟨na, nc, rfl⟩ := hpa.n.shape
    obtain ⟨la, lc, rfl⟩ := hpa.l.shape
    obtain ⟨ra, rc, rfl⟩ := hpa.r.shape
    exact ⟨hb, L, R, na, nc, la, lc, ra, rc, hp, rfl, hm⟩
theorem PolMem.set {w : World} {base : Nat} {nv lv rv : Value} {L R : List RSt} (h : PolMem w base nv lv rv L R) (b i : Nat) (hb : b < base) (v : Value) : PolMem (w.setCell ⟨b, i, none⟩ v) base nv lv rv L R :=
  ⟨ownsRow_setCell_below h.ond (a := ⟨b, i, none⟩) hb v, ownsRow_setCell_below h.olt (a := ⟨b, i, none⟩) hb v, ownsRow_setCell_below h.orl (a := ⟨b, i, none⟩) hb v⟩
set_option maxHeartbeats 2000000 in
set_option maxRecDepth 100000 in
theorem readSound_fine (s : ByteArray) (w : World) (hg : GlobT w) (hz : s.size ≤ maxLen) {l : List RTok} (htk : tokened s.toList = .fine l) (herr : ∀ L R, PolicyOf s.toList L R → errsOf (nodesS 0 (L ++ R)) (letsS 0 (L ++ R)) (rulesS 0 (L ++ R)) = (0, 0)) :
    Calls Tryz.prog 42 #[.string s] w fun e w' => Below w.heap.size w w' ∧ ∃ L R na nc la lc ra rc, PolicyOf s.toList L R ∧ e = .returned (.tuple #[.agg #[.slice na (nodesS 0 (L ++ R)).length nc, .slice la (letsS 0 (L ++ R)).length lc, .slice ra (rulesS 0 (L ++ R)).length rc], .int .i64 0, .int .i64 0]) ∧ PolMem w' w.heap.size (.slice na (nodesS 0 (L ++ R)).length nc) (.slice la (letsS 0 (L ++ R)).length lc) (.slice ra (rulesS 0 (L ++ R)).length rc) L R := by
  have hbz := new_below w (.cells #[nilS, nilS, nilS] 94)
  have HG := hideP (hg.below hbz)
  have HZ := hideP (Blk.new w #[nilS, nilS, nilS] 94)
  have HBZ := hideP hbz
  have HSZ := hideP hz
  have HER := hideP herr
  clear hg hbz hz herr
  have HTK : Hid (tokened s.toList = .fine l) := htk
  clear htk
  go_enter Tryz.func42, Tryz.ntmps42
  go_wp2_with (first | (go_at_call 66; refine (Read_pol s _ HG.out HSZ.out HTK.out).mono ?_; rintro e w1 ⟨hb1, L, R, na, nc, la, lc, ra, rc, hp, rfl, hpm⟩; have hpa := PolAt.of hpm hp; have HPM := hideP hpm; clear hpm; have HZ1 := hideP (HZ.out.below hb1 HZ.out.lt); have HB1 := hideP (HBZ.out.trans (hb1.mono HBZ.out.size)); have hz1 := HZ1.out.lt; have HP := hideP hp; have HPA := hideP hpa; clear hb1 hp hpa) | (go_at_call 67; refine (Errors_any _ _ _ _ _ _ _ (HPA.out.below (new_below w1 _)) (fits_of HP.out HPA.out.nb)).mono ?_; rintro e w3 ⟨rfl, hb3⟩; have HPM3 := hideP ((HPM.out.below (new_below w1 (.cells #[.slice na (nodesS 0 (L ++ R)).length nc, .slice la (letsS 0 (L ++ R)).length lc, .slice ra (rulesS 0 (L ++ R)).length rc] 94))).below hb3); obtain ⟨np, hnp⟩ : ∃ np, errsOf (nodesS 0 (L ++ R)) (letsS 0 (L ++ R)) (rulesS 0 (L ++ R)) = np := ⟨_, rfl⟩; obtain ⟨n, p⟩ := np; rw [hnp]; dsimp only; have HNP := hideP hnp; have HZ3 := hideP ((HZ1.out.alloc (.cells #[.slice na (nodesS 0 (L ++ R)).length nc, .slice la (letsS 0 (L ++ R)).length lc, .slice ra (rulesS 0 (L ++ R)).length rc] 94)).below hb3 (HZ1.out.alloc (.cells #[.slice na (nodesS 0 (L ++ R)).length nc, .slice la (letsS 0 (L ++ R)).length lc, .slice ra (rulesS 0 (L ++ R)).length rc] 94)).lt); have HV3 := hideP ((Blk.new w1 #[.slice na (nodesS 0 (L ++ R)).length nc, .slice la (letsS 0 (L ++ R)).length lc, .slice ra (rulesS 0 (L ++ R)).length rc] 94).below hb3 (Blk.new w1 #[.slice na (nodesS 0 (L ++ R)).length nc, .slice la (letsS 0 (L ++ R)).length lc, .slice ra (rulesS 0 (L ++ R)).length rc] 94).lt); have HB3 := hideP ((HB1.out.trans ((new_below w1 (.cells #[.slice na (nodesS 0 (L ++ R)).length nc, .slice la (letsS 0 (L ++ R)).length lc, .slice ra (rulesS 0 (L ++ R)).length rc] 94)).mono HB1.out.size)).trans (hb3.mono (by simp; omega))); have hz3 := HZ3.out.lt; have hv3 := HV3.out.lt; have z0 := HZ3.out.cell 0; have z1 := HZ3.out.cell 1; have z2 := HZ3.out.cell 2; have f0 := HZ3.out.free 0; have f1 := HZ3.out.free 1; have f2 := HZ3.out.free 2; have v0 := HV3.out.cell 0; have v1 := HV3.out.cell 1; have v2 := HV3.out.cell 2; clear hb3 hnp))
  · rename_i hn0
    have := HER.out L R HP.out
    rw [HNP.out] at this
    cases this
    simp at hn0
  · rename_i hn0
    have hn1 : n = 0 := by simpa using hn0
    subst hn1
    have hp0 := errs_zero HNP.out
    subst hp0
    have hfb := ((HZ3.out.set 0 (.slice na (nodesS 0 (L ++ R)).length nc)).set 1 (.slice la (letsS 0 (L ++ R)).length lc)).set 2 (.slice ra (rulesS 0 (L ++ R)).length rc)
    have g0 := hfb.cell 0
    have g1 := hfb.cell 1
    have g2 := hfb.cell 2
    have hbl := three_sets HB3.out (.slice na (nodesS 0 (L ++ R)).length nc) (.slice la (letsS 0 (L ++ R)).length lc) (.slice ra (rulesS 0 (L ++ R)).length rc)
    have hpm := ((HPM3.out.set w.heap.size 0 (by simp) (.slice na (nodesS 0 (L ++ R)).length nc)).set w.heap.size 1 (by simp) (.slice la (letsS 0 (L ++ R)).length lc)).set w.heap.size 2 (by simp) (.slice ra (rulesS 0 (L ++ R)).length rc)
    exact bodyPost_ret (v := .tuple #[.agg #[.slice na (nodesS 0 (L ++ R)).length nc, .slice la (letsS 0 (L ++ R)).length lc, .slice ra (rulesS 0 (L ++ R)).length rc], .int .i64 0, .int .i64 0]) (by simp [results, Tryz.results42, go_sem, g0, g1, g2]) rfl ⟨hbl, L, R, na, nc, la, lc, ra, rc, HP.out, rfl, ⟨own_base hpm.ond (by simp), own_base hpm.olt (by simp), own_base hpm.orl (by simp)⟩⟩
end Go.Proofs.YtffpmkgjnjdbaabGreatDoor
