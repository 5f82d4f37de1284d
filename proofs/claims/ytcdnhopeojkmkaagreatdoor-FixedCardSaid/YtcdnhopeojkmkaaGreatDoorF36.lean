/-
  The image of a policy with which nothing is wrong is one, and ends as its rows say.
-/
import Derived.Test.YtcdnhopeojkmkaaGreatDoorF32
import Derived.Test.YtcdnhopeojkmkaaGreatDoorF35
set_option linter.unusedVariables false
set_option linter.unusedSimpArgs false
namespace Go.Proofs.YtcdnhopeojkmkaaGreatDoor

theorem bytesN_low : ∀ (n u : Nat), ∀ c ∈ bytesN u n, c < 256
  | 0, _, c, h => by cases h
  | n + 1, u, c, h => by
    rcases List.mem_cons.1 h with rfl | h
    · omega
    · exact bytesN_low n _ c h
theorem jumpC_low {k d : Nat} (hk : k < 256) (hd : d < 65536) : ∀ c ∈ jumpC k d, c < 256 := by
  intro c hc
  simp only [jumpC, List.mem_cons, List.mem_nil_iff, or_false] at hc
  omega
theorem leafI_low (v : Int) : ∀ c ∈ (leafI v).code, c < 256 := by
  intro c hc
  rcases List.mem_cons.1 hc with rfl | hc
  · omega
  · exact bytesN_low _ _ c hc
theorem opK_low (k o : Nat) : opK k o < 256 := by unfold opK; (repeat' split) <;> omega
theorem pb_low {ls : List PLet} {N : List PNode} (x : Itm) (y : Bn) (hk : ∀ n ∈ N, kindP n.tok.text ≤ 100) : ∀ (f : Nat) (i : Int), (pbI (factsP ls N) ls N x y f i).code.length ≤ 60000 → ∀ c ∈ (pbI (factsP ls N) ls N x y f i).code, c < 256
  | 0, i, _ => leafI_low 0
  | f + 1, i, hl => by
    rw [pbI] at hl ⊢
    cases hn : N[i.toNat]? with
    | none => exact leafI_low 0
    | some n =>
      rw [hn] at hl
      simp only at hl ⊢
      cases hfa : atF (factsP ls N) i with
      | some v => exact leafI_low v
      | none =>
        rw [hfa] at hl
        simp only at hl ⊢
        by_cases h1 : n.ops = 1
        · rw [if_pos h1] at hl ⊢
          rw [(oneP_code _ _).1] at hl ⊢
          simp only [List.length_append] at hl
          intro c hc
          rcases List.mem_append.1 hc with hc | hc
          · exact pb_low x y hk f _ (by omega) c hc
          · rw [List.mem_singleton.1 hc]; exact opK_low _ _
        · rw [if_neg h1] at hl ⊢
          cases hc : isChK (kindP n.tok.text) with
          | true =>
            rw [hc] at hl
            simp only [if_true] at hl ⊢
            rw [(choiceP_code _ _ _ _).1] at hl ⊢
            simp only [choiceC, List.length_append] at hl
            intro c hm
            simp only [choiceC, List.mem_append] at hm
            rcases hm with hm | hm | hm | hm | hm
            · exact pb_low x y hk f _ (by omega) c hm
            · exact jumpC_low (by have := leaK_lt (kindP n.tok.text); omega) (by omega) c hm
            · exact pb_low x y hk f _ (by omega) c hm
            · exact jumpC_low (by omega) (by omega) c hm
            · exact leafI_low _ c hm
          | false =>
            rw [hc] at hl
            simp only [Bool.false_eq_true, if_false] at hl ⊢
            by_cases h2 : n.ops = 2
            · rw [if_pos h2] at hl ⊢
              rw [(twoP_code _ _ _).1] at hl ⊢
              simp only [List.length_append] at hl
              intro c hm
              simp only [List.mem_append, List.mem_singleton] at hm
              rcases hm with (hm | hm) | rfl
              · exact pb_low x y hk f _ (by omega) c hm
              · exact pb_low x y hk f _ (by omega) c hm
              · exact opK_low _ _
            · rw [if_neg h2] at hl ⊢
              by_cases hk2 : kindP n.tok.text = 2
              · rw [if_pos hk2] at hl ⊢
                exact pb_low x y hk f _ hl
              · rw [if_neg hk2]
                have := hk n (List.mem_of_getElem? hn)
                intro c hm
                simp only [leafA, List.mem_cons, List.mem_nil_iff, or_false] at hm
                omega
section
variable {ls : List PLet} {N : List PNode} {x : Itm} {y : Bn}
theorem act_size (r : PRule) : (actC ls N x y r).length ≤ 12 * (if r.hs then wtI ls N N.length ((r.score.behind : Int) - 1) else 0) + 1 ∧ actHi ls N x y r ≤ (if r.hs then wtI ls N N.length ((r.score.behind : Int) - 1) else 0) ∧ (actR ls N x y r).2.2 ≤ (actC ls N x y r).length := by
  unfold actC actHi actR rootP
  obtain ⟨a0, a1, a2, a3⟩ := pb_size (ls := ls) (N := N) x y N.length ((r.score.behind : Int) - 1)
  cases r.hs with
  | true =>
    simp only [if_true, List.length_append, List.length_singleton]
    refine ⟨by omega, a2, ?_⟩
    split <;> simp only <;> omega
  | false =>
    simp
theorem tail_size : ∀ (rs : List PRule), (tailC ls N x y rs).length ≤ 13 * wtRs ls N rs + 1 ∧ tailHi ls N x y rs ≤ wtRs ls N rs ∧ (tailR ls N x y rs).2.2 ≤ (tailC ls N x y rs).length
  | [] => by simp [tailC, tailHi, tailR, wtRs]
  | r :: rs => by
    obtain ⟨i1, i2, i3⟩ := tail_size rs
    obtain ⟨b1, b2, b3⟩ := act_size (ls := ls) (N := N) (x := x) (y := y) r
    obtain ⟨a0, a1, a2, a3⟩ := pb_size (ls := ls) (N := N) x y N.length ((r.when.behind : Int) - 1)
    rw [tailC, tailHi, tailR, wtRs, wtR]
    by_cases h2 : appliesF (factsP ls N) r = 2
    · rw [if_pos h2, if_pos h2, if_pos h2]
      exact ⟨by omega, by omega, b3⟩
    · rw [if_neg h2, if_neg h2, if_neg h2]
      by_cases h1 : appliesF (factsP ls N) r = 1
      · have hw := applies_when h1
        have hwp := wtI_pos ls N N.length ((r.when.behind : Int) - 1)
        rw [if_pos h1, if_pos h1, if_pos h1, if_pos hw]
        have ej : (jumpC 14 (actC ls N x y r).length).length = 3 := rfl
        simp only [List.length_append, ej]
        unfold rootP
        refine ⟨by omega, by omega, ?_⟩
        split
        · simp only; omega
        · split <;> simp only <;> omega
      · rw [if_neg h1, if_neg h1, if_neg h1]
        exact ⟨by omega, by omega, i3⟩
theorem tail_low (hk : ∀ n ∈ N, kindP n.tok.text ≤ 100) : ∀ (rs : List PRule), (∀ r ∈ rs, RuleFit ls N x y r) → ∀ c ∈ tailC ls N x y rs, c < 256
  | [], _, c, hc => by rw [tailC, List.mem_singleton] at hc; omega
  | r :: rs, hf, c, hc => by
    have hfr := hf r List.mem_cons_self
    have hal := actC_len hfr
    have hact : ∀ c ∈ actC ls N x y r, c < 256 := by
      intro c hc
      unfold actC at hc
      cases hs : r.hs with
      | true =>
        rw [hs] at hc
        simp only [if_true, List.mem_append, List.mem_singleton] at hc
        rcases hc with hc | rfl
        · have hl := hfr.sl hs
          exact pb_low x y hk _ _ (by have h := hl; unfold rootP at h; omega) c hc
        · omega
      | false =>
        rw [hs] at hc
        simp only [Bool.false_eq_true, if_false, List.mem_singleton] at hc
        omega
    rw [tailC] at hc
    split at hc
    · exact hact c hc
    · split at hc
      · rename_i h1
        have hl := hfr.wl (applies_when h1)
        simp only [List.mem_append] at hc
        rcases hc with ((hc | hc) | hc) | hc
        · exact pb_low x y hk _ _ (by have h := hl; unfold rootP at h; omega) c hc
        · exact jumpC_low (by omega) (by omega) c hc
        · exact hact c hc
        · exact tail_low hk rs (fun q hq => hf q (List.mem_cons_of_mem _ hq)) c hc
      · exact tail_low hk rs (fun q hq => hf q (List.mem_cons_of_mem _ hq)) c hc
end
theorem wtRs_mem (ls : List PLet) (N : List PNode) : ∀ (rs : List PRule) (r : PRule), r ∈ rs → wtR ls N r ≤ wtRs ls N rs
  | [], r, h => by cases h
  | q :: rs, r, h => by
    rw [wtRs]
    rcases List.mem_cons.1 h with rfl | h
    · omega
    · have := wtRs_mem ls N rs r h
      omega
/-- The image of a policy with which nothing is wrong. -/
structure ImageOf (N : List PNode) (ls : List PLet) (rs : List PRule) (x : Itm) (y : Bn) : Prop where
  len : (rulesH (factsP ls N) ls N rs [] 0).1.length ≤ 60000
  high : (rulesH (factsP ls N) ls N rs [] 0).2 < 100000
  img : IsImg (bsN (imageC N ls rs))
  run : runM (bsN (imageC N ls rs)) x y ((bsN (imageC N ls rs)).size + 1) 3 [] 0 = tailR ls N x y rs
theorem policy_image {s : Txt} {L R : List RSt} (h : PolicyOf s L R) (hN : (nodesS 0 (L ++ R)).length ≤ 401) (he : errsOf (nodesS 0 (L ++ R)) (letsS 0 (L ++ R)) (rulesS 0 (L ++ R)) = (0, 0)) {x : Itm} {y : Bn} (hx : x.Ok) (hy : y.Ok) :
    ImageOf (nodesS 0 (L ++ R)) (letsS 0 (L ++ R)) (rulesS 0 (L ++ R)) x y := by
  obtain ⟨hR, hT, hK⟩ := truths_ok h hN he x y
  have hok := policy_ok h hN
  have hw := rules_wt h hN he
  have hf := fits_of h hN
  have hl0 : LiesAt (nodesS 0 (L ++ R)) 0 (nodesS 0 (L ++ R)) := fun k n hk => by rw [Nat.zero_add]; exact hk
  have hrt := rule_trees (L ++ R) h.wf 0 hl0
  generalize hNN : nodesS 0 (L ++ R) = N at *
  generalize hll : letsS 0 (L ++ R) = ls at *
  generalize hrr : rulesS 0 (L ++ R) = rs at *
  have hfit : ∀ r ∈ rs, RuleFit ls N x y r := by
    intro r hr
    obtain ⟨t1, t2, _, _⟩ := hrt r hr
    have hwr := wtRs_mem ls N rs r hr
    unfold wtR at hwr
    refine ⟨fun hh => ?_, fun hh => ?_, fun hh => ?_, fun hh => ?_⟩
    · obtain ⟨t, hwt, hbe, _⟩ := t1 hh
      have := t.num_pos hwt
      exact ⟨by omega, (hf.x.w r hr).lt⟩
    · obtain ⟨t, hwt, hbe, _⟩ := t2 hh
      have := t.num_pos hwt
      exact ⟨by omega, (hf.x.s r hr).lt⟩
    · rw [if_pos hh] at hwr
      obtain ⟨a0, a1, a2, a3⟩ := pb_size (ls := ls) (N := N) x y N.length ((r.when.behind : Int) - 1)
      unfold rootP
      omega
    · rw [if_pos hh] at hwr
      obtain ⟨a0, a1, a2, a3⟩ := pb_size (ls := ls) (N := N) x y N.length ((r.score.behind : Int) - 1)
      unfold rootP
      omega
  obtain ⟨z1, z2, z3⟩ := tail_size (ls := ls) (N := N) (x := x) (y := y) rs
  have hrl := rules_pb x y hR rs hfit [] 0
  rw [List.nil_append, Nat.zero_max] at hrl
  have him : imageC N ls rs = imgC (tailHi ls N x y rs) (tailC ls N x y rs) := by
    unfold imageC
    rw [hrl]
    simp only
    rw [Nat.mod_eq_of_lt (by omega)]
  have hsm : ∀ c ∈ imgC (tailHi ls N x y rs) (tailC ls N x y rs), c < 256 := by
    intro c hc
    simp only [imgC, List.mem_cons] at hc
    rcases hc with rfl | rfl | rfl | hc
    · omega
    · omega
    · omega
    · exact tail_low hok.kd rs hfit c hc
  have hsit := sits_bsN2 _ hsm
  obtain ⟨b0, b1, b2, hc⟩ := hsit.img
  have hz : (bsN (imgC (tailHi ls N x y rs) (tailC ls N x y rs))).size = (tailC ls N x y rs).length + 3 := by rw [bsN_len]; simp [imgC]
  obtain ⟨⟨l, H, tl⟩, en⟩ := rules_tail hx hy hok.fi hR rs hfit 3 hc
  have hlt := tl.lt
  refine ⟨by rw [hrl]; simp only; omega, by rw [hrl]; simp only; omega, ?_, ?_⟩
  · rw [him]
    refine ⟨⟨by omega, by omega, b0, b1⟩, l, ?_, H, ?_⟩
    · rw [hz, Nat.add_comm]; exact tl.chain
    · exact tl.lawful (by rw [b2]; exact Int.le_refl _)
  · rw [him]
    have := en ((bsN (imgC (tailHi ls N x y rs) (tailC ls N x y rs))).size + 1) 0 (by omega)
    rw [this, Nat.zero_add]
theorem item_one : (⟨1, 0, 0⟩ : Itm).Ok := by unfold Itm.Ok; simp
theorem bin_one : (⟨0, 0, 1, 0, 0⟩ : Bn).Ok := by unfold Bn.Ok; simp
/-- Of every text that is read, and with which nothing is wrong, all is known that Compile wants. -/
theorem known_of {s : Txt} {L R : List RSt} (h : PolicyOf s L R) (hN : (nodesS 0 (L ++ R)).length ≤ 401) (he : errsOf (nodesS 0 (L ++ R)) (letsS 0 (L ++ R)) (rulesS 0 (L ++ R)) = (0, 0)) : KnownP s (nodesS 0 (L ++ R)) (letsS 0 (L ++ R)) (rulesS 0 (L ++ R)) := by
  have hi := policy_image h hN he item_one bin_one
  exact ⟨⟨L, R, h, rfl, rfl, rfl⟩, he, hi.len, hi.high⟩
end Go.Proofs.YtcdnhopeojkmkaaGreatDoor
