/-
  The image of a policy with which nothing is wrong, row by row.
-/
import Derived.Test.YtcdnhopeojkmkaaGreatDoorW30
import Derived.Test.YtcdnhopeojkmkaaGreatDoorW27
import Derived.Deep.RegionWith
import Derived.Deep.DeepCutAuto
import Derived.Test.YtcdnhopeojkmkaaGreatDoorProg
import Derived.Test.YtcdnhopeojkmkaaGreatDoorW08
import Derived.Test.YtcdnhopeojkmkaaGreatDoorW06
import Derived.WalkLawsBesides
import Derived.Deep.QuietTactic
import Derived.BigQuiet
import Derived.Deep.Light
import Derived.Test.YtcdnhopeojkmkaaGreatDoorW00
import Derived.Laws.BitsAllLaws
import Derived.Test.YtcdnhopeojkmkaaGreatDoorW20
set_option linter.unusedVariables false
set_option linter.unusedSimpArgs false
namespace Go.Proofs.YtcdnhopeojkmkaaGreatDoor
theorem code_pb2 {fs : List Fact} {ls : List PLet} {N : List PNode} (x : Itm) (y : Bn) (hR : RefsOk ls fs N) : ∀ (f b i below h : Nat), i < b → b ≤ f → b ≤ N.length → (pbI fs ls N x y f (i : Int)).code.length ≤ 60000 → codeH fs ls N f b (i : Int) below h = ((pbI fs ls N x y f (i : Int)).code, max h (below + (pbI fs ls N x y f (i : Int)).high))
  | 0, b, i, _, _, hi, hb, _, _ => by omega
  | f + 1, b, i, below, h, hi, hb, hN, hlen => by
    obtain ⟨n, hn⟩ : ∃ n, N[i]? = some n := ⟨N[i]'(by omega), List.getElem?_eq_getElem (by omega)⟩
    obtain ⟨hok, hrf⟩ := hR i n hn
    have hpb : pbI fs ls N x y (f + 1) (i : Int) = match atF fs (i : Int) with
      | some v => leafI v
      | none =>
        if n.ops = 1 then oneP (opK (kindP n.tok.text) n.ops) (pbI fs ls N x y f n.left)
        else if isChK (kindP n.tok.text) then choiceP (leaK (kindP n.tok.text)) (pbI fs ls N x y f n.left) (pbI fs ls N x y f n.right) (leafI (decK (kindP n.tok.text)))
        else if n.ops = 2 then twoP (opK (kindP n.tok.text) n.ops) (pbI fs ls N x y f n.left) (pbI fs ls N x y f n.right)
        else if kindP n.tok.text = 2 then pbI fs ls N x y f (meantI ls n.tok.text)
        else leafA (kindP n.tok.text - 15) x y := by
      rw [pbI]
      simp only [Int.toNat_natCast, hn]
      first | done | (cases atF fs (i : Int) <;> rfl)
    cases hfa : atF fs (i : Int) with
    | some v =>
      rw [codeH_some hi hn hfa, hpb, hfa, layH_max]
      rfl
    | none =>
      rw [codeH_none hi hn hfa]
      rw [hpb, hfa] at hlen ⊢
      simp only at hlen ⊢
      by_cases h1 : n.ops = 1
      · rw [if_pos h1] at hlen
        rw [if_pos h1, if_pos h1]
        rw [(oneP_code _ _).1, List.length_append] at hlen
        have ih := code_pb2 x y hR f i n.left below h (hrf.one h1) (by omega) (by omega) (by omega)
        have hop := hok.one h1
        rw [ih, opC_bare _ (behind_op (by omega) (by omega)), (oneP_code _ _).1, (oneP_code _ _).2]
      · rw [if_neg h1] at hlen
        rw [if_neg h1, if_neg h1]
        cases hc : isChK (kindP n.tok.text) with
        | true =>
          rw [hc, if_pos rfl] at hlen
          rw [if_pos rfl, if_pos rfl]
          obtain ⟨hl, hr⟩ := hrf.two h1 (.inl hc)
          unfold chcH
          rw [(choiceP_code _ _ _ _).1] at hlen
          simp only [choiceC, List.length_append] at hlen
          have ih1 := code_pb2 x y hR f i n.left below h hl (by omega) (by omega) (by omega)
          have ih2 := code_pb2 x y hR f i n.right below (codeH fs ls N f i n.left below h).2 hr (by omega) (by omega) (by omega)
          rw [ih2, ih1]
          simp only
          have e9 : (leafI (decK (kindP n.tok.text))).code.length = 9 := by simp [leafI, eightC, bytesN_length]
          have e13 : opC 13 9 = jumpC 13 9 := by decide
          rw [opC_jump (lea_behind _) _ (by omega), layH_max, (choiceP_code _ _ _ _).1, (choiceP_code _ _ _ _).2]
          refine Prod.ext ?_ ?_
          · simp only [choiceC, opC_int, List.append_assoc, e9, e13]
          · simp only [choiceH, maxN_max]
            have : (leafI (decK (kindP n.tok.text))).high = 1 := rfl
            rw [this]
            omega
        | false =>
          rw [hc] at hlen
          simp only [Bool.false_eq_true, if_false] at hlen ⊢
          by_cases h2 : n.ops = 2
          · rw [if_pos h2] at hlen
            rw [if_pos h2, if_pos h2]
            obtain ⟨hl, hr⟩ := hrf.two h1 (.inr h2)
            rw [(twoP_code _ _ _).1] at hlen
            simp only [List.length_append] at hlen
            have ih1 := code_pb2 x y hR f i n.left below h hl (by omega) (by omega) (by omega)
            have ih2 := code_pb2 x y hR f i n.right (below + 1) (codeH fs ls N f i n.left below h).2 hr (by omega) (by omega) (by omega)
            have hop := hok.two hc h2
            rw [ih2, ih1, opC_bare _ (behind_op (by omega) (by omega)), (twoP_code _ _ _).1, (twoP_code _ _ _).2, maxN_max]
            simp only
            refine Prod.ext rfl ?_
            simp only
            omega
          · rw [if_neg h2] at hlen
            rw [if_neg h2, if_neg h2]
            have h0 : n.ops = 0 := by have := hok.ops; omega
            by_cases hk : kindP n.tok.text = 2
            · rw [if_pos hk] at hlen
              rw [if_pos hk, if_pos hk]
              obtain ⟨hm0, hm1⟩ := hrf.nam h0 hc hk
              obtain ⟨j, hj⟩ : ∃ j : Nat, meantI ls n.tok.text = (j : Int) := ⟨(meantI ls n.tok.text).toNat, by omega⟩
              rw [hj] at hlen hm1 ⊢
              exact code_pb2 x y hR f i j below h (by omega) (by omega) (by omega) hlen
            · rw [if_neg hk, if_neg hk]
              obtain ⟨hk1, hk2⟩ := hrf.att h0 hc hk hfa
              rw [opC_attr hk1 hk2 x y, layH_max]
              rfl
section
variable (ls : List PLet) (N : List PNode) (x : Itm) (y : Bn)
def rootP (e : PExp) : PB := pbI (factsP ls N) ls N x y N.length ((e.behind : Int) - 1)
def actC (r : PRule) : List Nat := if r.hs then (rootP ls N x y r.score).code ++ [16] else [17]
def actR (r : PRule) : Nat × Int × Nat := if r.hs then (if (rootP ls N x y r.score).flt = 0 then (1, (rootP ls N x y r.score).v, (rootP ls N x y r.score).steps + 1) else (2, ((rootP ls N x y r.score).flt : Int), (rootP ls N x y r.score).steps)) else (0, 0, 1)
def actHi (r : PRule) : Nat := if r.hs then (rootP ls N x y r.score).high else 0
def tailC : List PRule → List Nat
  | [] => [17]
  | r :: rs => if appliesF (factsP ls N) r = 2 then actC ls N x y r
    else if appliesF (factsP ls N) r = 1 then (rootP ls N x y r.when).code ++ jumpC 14 (actC ls N x y r).length ++ actC ls N x y r ++ tailC rs
    else tailC rs
def tailHi : List PRule → Nat
  | [] => 0
  | r :: rs => if appliesF (factsP ls N) r = 2 then actHi ls N x y r
    else if appliesF (factsP ls N) r = 1 then max (rootP ls N x y r.when).high (max (actHi ls N x y r) (tailHi rs))
    else tailHi rs
def tailR : List PRule → Nat × Int × Nat
  | [] => (0, 0, 1)
  | r :: rs => if appliesF (factsP ls N) r = 2 then actR ls N x y r
    else if appliesF (factsP ls N) r = 1 then
      (if (rootP ls N x y r.when).flt ≠ 0 then (2, ((rootP ls N x y r.when).flt : Int), (rootP ls N x y r.when).steps)
       else if (rootP ls N x y r.when).v = 0 then ((tailR rs).1, (tailR rs).2.1, (rootP ls N x y r.when).steps + 1 + (tailR rs).2.2)
       else ((actR ls N x y r).1, (actR ls N x y r).2.1, (rootP ls N x y r.when).steps + 1 + (actR ls N x y r).2.2))
    else tailR rs
end
structure RuleFit (ls : List PLet) (N : List PNode) (x : Itm) (y : Bn) (r : PRule) : Prop where
  wb : r.hw = true → 1 ≤ r.when.behind ∧ r.when.behind ≤ N.length
  sb : r.hs = true → 1 ≤ r.score.behind ∧ r.score.behind ≤ N.length
  wl : r.hw = true → (rootP ls N x y r.when).code.length ≤ 2000
  sl : r.hs = true → (rootP ls N x y r.score).code.length ≤ 2000
theorem applies_when {fs : List Fact} {r : PRule} (h : appliesF fs r = 1) : r.hw = true := by
  unfold appliesF at h
  split at h
  · assumption
  · omega
theorem expr_pb {ls : List PLet} {N : List PNode} (x : Itm) (y : Bn) (hR : RefsOk ls (factsP ls N) N) {e : PExp} (h1 : 1 ≤ e.behind) (h2 : e.behind ≤ N.length) (hl : (rootP ls N x y e).code.length ≤ 2000) (h : Nat) : exprH (factsP ls N) ls N e h = ((rootP ls N x y e).code, max h (rootP ls N x y e).high) := by
  unfold exprH
  unfold rootP at hl ⊢
  have e1 : ((e.behind : Int) - 1) = ((e.behind - 1 : Nat) : Int) := by omega
  rw [e1] at hl ⊢
  rw [code_pb2 x y hR N.length N.length (e.behind - 1) 0 h (by omega) (Nat.le_refl _) (Nat.le_refl _) (by omega), Nat.zero_add]
theorem act_pb {ls : List PLet} {N : List PNode} (x : Itm) (y : Bn) (hR : RefsOk ls (factsP ls N) N) {r : PRule} (hf : RuleFit ls N x y r) (h : Nat) : actH (factsP ls N) ls N r h = (actC ls N x y r, max h (actHi ls N x y r)) := by
  unfold actH actC actHi
  cases hs : r.hs with
  | true =>
    obtain ⟨a1, a2⟩ := hf.sb hs
    simp only [if_true]
    rw [expr_pb x y hR a1 a2 (hf.sl hs)]
    exact Prod.ext (by rw [opC_bare _ rfl]) rfl
  | false =>
    simp only [Bool.false_eq_true, if_false]
    exact Prod.ext (opC_bare _ rfl) (by simp)
theorem actC_len {ls : List PLet} {N : List PNode} {x : Itm} {y : Bn} {r : PRule} (hf : RuleFit ls N x y r) : (actC ls N x y r).length ≤ 2001 := by
  unfold actC
  split
  · rename_i hs
    have := hf.sl hs
    simp only [List.length_append, List.length_singleton]
    omega
  · simp
theorem rules_pb {ls : List PLet} {N : List PNode} (x : Itm) (y : Bn) (hR : RefsOk ls (factsP ls N) N) : ∀ (rs : List PRule), (∀ r ∈ rs, RuleFit ls N x y r) → ∀ (c : List Nat) (h : Nat), rulesH (factsP ls N) ls N rs c h = (c ++ tailC ls N x y rs, max h (tailHi ls N x y rs))
  | [], _, c, h => by
    rw [rulesH, tailC, tailHi, opC_bare _ rfl]
    simp
  | r :: rs, hf, c, h => by
    have hfr := hf r List.mem_cons_self
    have hl := actC_len hfr
    rw [rulesH, tailC, tailHi]
    by_cases h2 : appliesF (factsP ls N) r = 2
    · rw [if_pos h2, if_pos h2, if_pos h2, act_pb x y hR hfr]
    · rw [if_neg h2, if_neg h2, if_neg h2]
      by_cases h1 : appliesF (factsP ls N) r = 1
      · rw [if_pos h1, if_pos h1, if_pos h1]
        have hw := applies_when h1
        obtain ⟨a1, a2⟩ := hfr.wb hw
        have hg : guardH (factsP ls N) ls N r h = ((rootP ls N x y r.when).code ++ jumpC 14 (actC ls N x y r).length ++ actC ls N x y r, max (max h (rootP ls N x y r.when).high) (actHi ls N x y r)) := by
          unfold guardH
          rw [expr_pb x y hR a1 a2 (hfr.wl hw)]
          simp only
          rw [act_pb x y hR hfr]
          simp only
          rw [opC_jump rfl _ (by omega)]
        rw [hg, rules_pb x y hR rs (fun q hq => hf q (List.mem_cons_of_mem _ hq))]
        refine Prod.ext ?_ ?_
        · simp only [List.append_assoc]
        · simp only
          omega
      · rw [if_neg h1, if_neg h1, if_neg h1]
        exact rules_pb x y hR rs (fun q hq => hf q (List.mem_cons_of_mem _ hq)) c h
theorem act_tail {ls : List PLet} {N : List PNode} {x : Itm} {y : Bn} (hx : x.Ok) (hy : y.Ok) (hfi : ∀ i, FactIn (atF (factsP ls N) i)) (hR : RefsOk ls (factsP ls N) N) {r : PRule} (hf : RuleFit ls N x y r) {s : ByteArray} {p : Nat} (hs : Sits s p (actC ls N x y r)) :
    (∃ l H, Tail s p (p + (actC ls N x y r).length) (actHi ls N x y r : Nat) l H) ∧ Ends s x y p (actR ls N x y r) := by
  unfold actC at hs ⊢
  unfold actHi actR
  cases hh : r.hs with
  | true =>
    rw [hh] at hs
    simp only [if_true] at hs ⊢
    have hl := hf.sl hh
    have hok : (rootP ls N x y r.score).Ok x y := pb_ok hx hy hfi hR _ _ (by have := (hf.sb hh).1; omega) (by have h := hl; unfold rootP at h; omega)
    obtain ⟨l, H, g⟩ := hok.seg s p 0 hs.left (by omega)
    have hsc := hs.right.head
    have g' := g.cast rfl (Int.zero_add 1) (Int.zero_add _)
    refine ⟨⟨l ++ [mkIns s (p + (rootP ls N x y r.score).code.length)], H, ?_⟩, ends_score (hok.does s p hs.left) hsc.2⟩
    have := tail_score g' hsc.1 hsc.2
    rw [List.length_append, List.length_singleton, ← Nat.add_assoc]
    exact this
  | false =>
    rw [hh] at hs
    simp only [Bool.false_eq_true, if_false] at hs ⊢
    have hsc := hs.head
    exact ⟨⟨_, _, tail_reject hsc.1 hsc.2⟩, ends_reject x y hsc.2⟩
theorem rules_tail {ls : List PLet} {N : List PNode} {x : Itm} {y : Bn} (hx : x.Ok) (hy : y.Ok) (hfi : ∀ i, FactIn (atF (factsP ls N) i)) (hR : RefsOk ls (factsP ls N) N) {s : ByteArray} : ∀ (rs : List PRule), (∀ r ∈ rs, RuleFit ls N x y r) → ∀ p, Sits s p (tailC ls N x y rs) →
    (∃ l H, Tail s p (p + (tailC ls N x y rs).length) (tailHi ls N x y rs : Nat) l H) ∧ Ends s x y p (tailR ls N x y rs)
  | [], _, p, hs => by
    rw [tailC] at hs ⊢
    have hsc := hs.head
    exact ⟨⟨_, _, tail_reject hsc.1 hsc.2⟩, ends_reject x y hsc.2⟩
  | r :: rs, hf, p, hs => by
    have hfr := hf r List.mem_cons_self
    rw [tailC] at hs ⊢
    rw [tailHi, tailR]
    by_cases h2 : appliesF (factsP ls N) r = 2
    · rw [if_pos h2] at hs ⊢
      rw [if_pos h2, if_pos h2]
      exact act_tail hx hy hfi hR hfr hs
    · rw [if_neg h2] at hs ⊢
      rw [if_neg h2, if_neg h2]
      by_cases h1 : appliesF (factsP ls N) r = 1
      · rw [if_pos h1] at hs ⊢
        rw [if_pos h1, if_pos h1]
        have hw := applies_when h1
        have hl := hfr.wl hw
        have hal := actC_len hfr
        have hok : (rootP ls N x y r.when).Ok x y := pb_ok hx hy hfi hR _ _ (by have := (hfr.wb hw).1; omega) (by have h := hl; unfold rootP at h; omega)
        have s1 := hs.left.left.left
        have s2 := hs.left.left.right
        have s3 := hs.left.right
        have s4 := hs.right
        have ej : (jumpC 14 (actC ls N x y r).length).length = 3 := rfl
        simp only [List.length_append, ej] at s3 s4
        obtain ⟨l, H, g⟩ := hok.seg s p 0 s1 (by omega)
        have g' := g.cast rfl (Int.zero_add 1) (Int.zero_add _)
        obtain ⟨a1, a2, a3, a4, a5, a6⟩ := jump_op' s2 (.inr (.inl rfl)) (by omega)
        obtain ⟨⟨la, Ha, ta⟩, ea⟩ := act_tail hx hy hfi hR hfr (s := s) (p := p + (rootP ls N x y r.when).code.length + 3) (by rw [Nat.add_assoc]; exact s3)
        obtain ⟨⟨lr, Hr, tr⟩, er⟩ := rules_tail hx hy hfi hR rs (fun q hq => hf q (List.mem_cons_of_mem _ hq)) (p + (rootP ls N x y r.when).code.length + 3 + (actC ls N x y r).length) (by rw [show p + (rootP ls N x y r.when).code.length + 3 + (actC ls N x y r).length = p + ((rootP ls N x y r.when).code.length + 3 + (actC ls N x y r).length) by omega]; exact s4)
        obtain ⟨l', H', tg⟩ := tail_guard g' a1 a4 a2 a6 ta tr
        refine ⟨⟨l', H', ?_⟩, ends_guard (hok.does s p s1) a4 a2 a5 ea er⟩
        have e1 : p + ((rootP ls N x y r.when).code ++ jumpC 14 (actC ls N x y r).length ++ actC ls N x y r ++ tailC ls N x y rs).length = p + (rootP ls N x y r.when).code.length + 3 + (actC ls N x y r).length + (tailC ls N x y rs).length := by
          simp only [List.length_append, ej]
          omega
        rw [e1]
        refine tg.more ?_
        omega
      · rw [if_neg h1] at hs ⊢
        rw [if_neg h1, if_neg h1]
        exact rules_tail hx hy hfi hR rs (fun q hq => hf q (List.mem_cons_of_mem _ hq)) p hs
end Go.Proofs.YtcdnhopeojkmkaaGreatDoor
namespace Go.Proofs.YtcdnhopeojkmkaaGreatDoor
open Go.RowKit Go.Deep
end Go.Proofs.YtcdnhopeojkmkaaGreatDoor
namespace Go.Proofs.YtcdnhopeojkmkaaGreatDoor
open Go.RowKit Go.Deep
end Go.Proofs.YtcdnhopeojkmkaaGreatDoor
namespace Go.Proofs.YtcdnhopeojkmkaaGreatDoor
open Go.RowKit
theorem lowU_step (s : ByteArray) (p j n : Nat) (hj : 0 < j) (hn : j ≤ n) : lowU s (p + (j - 1)) (n - (j - 1)) = bt s (p + (j - 1)) + 256 * lowU s (p + j) (n - j) := by
  have e : n - (j - 1) = (n - j) + 1 := by omega
  rw [e]
  simp only [lowU]
  rw [show p + (j - 1) + 1 = p + j by omega]
end Go.Proofs.YtcdnhopeojkmkaaGreatDoor
namespace Go.Proofs.YtcdnhopeojkmkaaGreatDoor
open Go.RowKit
structure GlobP (w : World) : Prop where
  bytes : ∀ c, c < 18 → w.cell? ⟨0, c, none⟩ = some (.int .i64 (behindN c))
  takes : ∀ c, c < 18 → w.cell? ⟨1, c, none⟩ = some (.int .i64 (takesN c))
  lays : ∀ c, c < 18 → w.cell? ⟨2, c, none⟩ = some (.int .i64 (laysN c))
  size : 0 < w.heap.size ∧ 1 < w.heap.size ∧ 2 < w.heap.size
theorem GlobP.below {w w' : World} (h : GlobP w) (hb : Below w.heap.size w w') : GlobP w' :=
  ⟨fun c hc => (hb.cell (p := ⟨0, c, none⟩) h.size.1).trans (h.bytes c hc), fun c hc => (hb.cell (p := ⟨1, c, none⟩) h.size.2.1).trans (h.takes c hc), fun c hc => (hb.cell (p := ⟨2, c, none⟩) h.size.2.2).trans (h.lays c hc), ⟨Nat.lt_of_lt_of_le h.size.1 hb.size, Nat.lt_of_lt_of_le h.size.2.1 hb.size, Nat.lt_of_lt_of_le h.size.2.2 hb.size⟩⟩
structure GlobY (w : World) : Prop where
  bytes : ∀ c, c < 18 → w.cell? ⟨0, c, none⟩ = some (.int .i64 (behindN c))
  size : 0 < w.heap.size
theorem GlobY.below {w w' : World} (h : GlobY w) (hb : Below w.heap.size w w') : GlobY w' :=
  ⟨fun c hc => (hb.cell (p := ⟨0, c, none⟩) h.size).trans (h.bytes c hc), Nat.lt_of_lt_of_le h.size hb.size⟩
theorem GlobP.y {w : World} (h : GlobP w) : GlobY w := ⟨h.bytes, h.size.1⟩
def headB (s : ByteArray) : Bool := decide (4 ≤ s.size) && decide (s.size ≤ 4000) && decide (bt s 0 = 83) && decide (bt s 1 = 76)
theorem headB_iff (s : ByteArray) : headB s = true ↔ HeadOk s := by
  unfold headB HeadOk
  simp only [Bool.and_eq_true, decide_eq_true_eq, and_assoc]
theorem headB_false {s : ByteArray} (h : ¬ HeadOk s) : headB s = false := by
  cases hb : headB s
  · rfl
  · exact absurd ((headB_iff s).1 hb) h
set_option maxHeartbeats 400000 in
theorem hasHead_any (s : ByteArray) (w : World) :
    Calls Tryz.prog 63 #[.string s] w fun e w' => e = .returned (.bool (headB s)) ∧ w' = w := by
  by_cases h1 : s.size ≤ 3
  · go_enter Tryz.func63, Tryz.ntmps63
    go_wp2
    go_ret
    exact ⟨ret_bool (by symm; apply headB_false; intro h; have := h.1; omega), rfl⟩
  by_cases h2 : 4000 < s.size
  · go_enter Tryz.func63, Tryz.ntmps63
    go_wp2
    go_ret
    exact ⟨ret_bool (by symm; apply headB_false; intro h; have := h.2.1; omega), rfl⟩
  have hi0 := fun wx => run_index_nat (P := Tryz.prog) wx 9 s .i64 0 0 Tryz.underlying9 rfl (by omega)
  have hi1 := fun wx => run_index_nat (P := Tryz.prog) wx 9 s .i64 1 1 Tryz.underlying9 rfl (by omega)
  have HB0 : Hid (bt s 0 = s[0].toNat) := bt_get s 0 (by omega)
  have HB1 : Hid (bt s 1 = s[1].toNat) := bt_get s 1 (by omega)
  obtain ⟨c0, hc0⟩ : ∃ c, c = (s[0]'(by omega)).toNat := ⟨_, rfl⟩
  obtain ⟨c1, hc1⟩ : ∃ c, c = (s[1]'(by omega)).toNat := ⟨_, rfl⟩
  rw [← hc0] at hi0 HB0
  rw [← hc1] at hi1 HB1
  clear hc0 hc1
  have HD : Hid (headB s = (((c0 : Int) == 83) && ((c1 : Int) == 76))) := (by
    rw [Bool.eq_iff_iff, headB_iff]
    unfold HeadOk
    rw [HB0.out, HB1.out]
    simp
    omega : headB s = (((c0 : Int) == 83) && ((c1 : Int) == 76)))
  cases h3 : ((c0 : Int) == 83)
  all_goals
    go_enter Tryz.func63, Tryz.ntmps63
    go_wp2
    go_ret
    exact ⟨ret_bool (by rw [HD.out]; simp [h3]), rfl⟩
theorem bt_ext (s : ByteArray) (a b i : Nat) (h : i < (s.extract a b).size) : bt (s.extract a b) i = bt s (a + i) := by
  have h2 : a + i < s.size := by rw [ByteArray.size_extract] at h; omega
  rw [bt_get _ _ h, bt_get _ _ h2]
  congr 1
  have h3 := getElem_toList (s.extract a b) i h
  have h4 := getElem_toList s (a + i) h2
  have e : (s.extract a b).toList = (s.toList.drop a).take (b - a) := by rw [extract_bsOf, bsOf_toList]
  rw [ByteArray.size_extract] at h
  rw [e, List.getElem?_take, if_pos (by omega), List.getElem?_drop, h4] at h3
  exact (Option.some.inj h3).symm
theorem lowU_ext (s : ByteArray) (a b : Nat) : ∀ (n k : Nat), k + n ≤ (s.extract a b).size → lowU (s.extract a b) k n = lowU s (a + k) n
  | 0, _, _ => rfl
  | n + 1, k, h => by
    simp only [lowU]
    rw [bt_ext s a b k (by omega), lowU_ext s a b n (k + 1) (by omega), Nat.add_assoc]
theorem lowU_lt (s : ByteArray) : ∀ (n k : Nat), lowU s k n < 256 ^ n
  | 0, _ => by simp [lowU]
  | n + 1, k => by
    have h1 := lowU_lt s n (k + 1)
    have h2 := bt_lt s k
    simp only [lowU, Nat.pow_succ]
    omega
theorem or_low (L b : Nat) (hL : L < 72057594037927936) (hb : b < 256) : bits .or .u64 (IntKind.u64.wrap ((L : Int) * 256)) (IntKind.u64.wrap (b : Nat)) = ((b + 256 * L : Nat) : Int) := by
  rw [IntWalk.u64_in _ ⟨by omega, by omega⟩, IntWalk.u64_in _ ⟨by omega, by omega⟩]
  have e : (L : Int) * 256 = ((L * 256 : Nat) : Int) := by omega
  rw [e, u64_or_nat _ _ (by omega) (by omega)]
  have h := Nat.shiftLeft_add_eq_or_of_lt (i := 8) (b := b) (by omega) L
  rw [Nat.shiftLeft_eq] at h
  rw [← h]
  omega
set_option maxHeartbeats 1000000 in
theorem lowestFirst_any (t : ByteArray) (ht : t.size ≤ 8) (w : World) :
    Calls Tryz.prog 98 #[.string t] w fun e w' => e = .returned (.int .i64 (IntKind.i64.wrap (lowU t 0 t.size : Nat))) ∧ w' = w := by
  go_enter Tryz.func98, Tryz.ntmps98
  go_wp2
  go_loop [3, 4] (fun v i => ∃ j : Nat, j ≤ t.size ∧ i = .int .i64 ((j : Int) - 1) ∧ v = .int .u64 (lowU t j (t.size - j) : Nat)) (fun _ i => (intOf i + 1).toNat)
  case atStart => exact ⟨t.size, Nat.le_refl _, by go_num, by simp [lowU]⟩
  case round =>
    obtain ⟨j, hj, rfl, rfl⟩ := hrel
    by_cases h0 : 0 < j
    · have hb : j - 1 < t.size := by omega
      have hbt : (t[j - 1]'hb).toNat = bt t (j - 1) := (bt_get t _ hb).symm
      have hix := fun wx => run_index_nat (P := Tryz.prog) wx 9 t .i64 ((j : Int) - 1) (j - 1) Tryz.underlying9 (by omega) hb
      go_wp2
      go_round
      case rel => exact ⟨j - 1, by omega, by go_num, by
          have hL := lowU_lt t (t.size - j) j
          have h7 : 256 ^ (t.size - j) ≤ 256 ^ 7 := Nat.pow_le_pow_right (by omega) (by omega)
          have e := lowU_step t 0 j t.size h0 hj
          simp only [Nat.zero_add] at e
          rw [e, or_low _ _ (by omega) (bt_lt t (j - 1))]⟩
      case measure => simp [intOf]; omega
    · go_wp2
      go_ret
      have : j = 0 := by omega
      subst this
      exact ⟨ret_int (by rw [IntWalk.i64_left]; simp), rfl⟩
end Go.Proofs.YtcdnhopeojkmkaaGreatDoor
namespace Go.Proofs.YtcdnhopeojkmkaaGreatDoor
open Go.RowKit
def opV (o : Ins) : Value := .agg #[.int .i64 o.op, .int .i64 o.arg, .int .i64 o.next]
def noV : Value := .agg #[.int .i64 0, .int .i64 0, .int .i64 0]
set_option maxHeartbeats 1000000 in
set_option maxRecDepth 10000 in
theorem At_any (s : ByteArray) (hs : s.size ≤ 4000) (p : Nat) (hp : p ≤ 100000) (w : World) (hg : GlobY w) :
    Calls Tryz.prog 68 #[.string s, .int .i64 p] w fun e w' => Below w.heap.size w w' ∧
      ((OpOkI s p ∧ e = .returned (.tuple #[opV (mkIns s p), .bool true])) ∨ (¬ OpOkI s p ∧ e = .returned (.tuple #[noV, .bool false]))) := by
  have HG : Hid (GlobY w) := hg
  clear hg
  by_cases hlt : p < s.size
  case neg =>
    go_enter Tryz.func68, Tryz.ntmps68
    go_wp2
    refine bodyPost_ret (v := .tuple #[noV, .bool false]) (by simp [results, Tryz.results68, go_sem, noV]) rfl ?_
    exact ⟨box3 _ _, .inr ⟨fun h => hlt h.1, rfl⟩⟩
  have HB : Hid (bt s p = s[p].toNat) := bt_get s p hlt
  obtain ⟨c, hc⟩ : ∃ c, c = s[p].toNat := ⟨_, rfl⟩
  have hc256 : c < 256 := by rw [hc]; exact UInt8.toNat_lt _
  obtain ⟨n, hn⟩ : ∃ n, n = behindN c := ⟨_, rfl⟩
  have hn8 : n ≤ 8 := by rw [hn]; unfold behindN; (repeat' split) <;> omega
  have hm : mkIns s p = ⟨p, c, IntKind.i64.wrap (lowU s (p + 1) n : Nat), p + 1 + n⟩ := by simp only [mkIns, HB.out, ← hc, ← hn]
  obtain ⟨a, ha⟩ : ∃ a, a = IntKind.i64.wrap (lowU s (p + 1) n : Nat) := ⟨_, rfl⟩
  have ha1 : c = 1 → a = bt s (p + 1) := by
    intro h
    have h1 : n = 1 := by rw [hn, h]; rfl
    rw [ha, h1, lowU_one]
    exact wrap_small _ (by have := bt_lt s (p + 1); omega)
  rw [← ha] at hm
  have hopk : OpOkI s p ↔ c ≤ 17 ∧ p + 1 + n ≤ s.size ∧ (c = 1 → a ≤ 6) := by
    unfold OpOkI
    rw [HB.out, ← hc, ← hn]
    constructor
    · rintro ⟨_, h1, h2, h3⟩
      exact ⟨h1, h2, fun h => by rw [ha1 h]; have := h3 h; omega⟩
    · rintro ⟨h1, h2, h3⟩
      exact ⟨hlt, h1, h2, fun h => by have := h3 h; rw [ha1 h] at this; omega⟩
  have HO : Hid (OpOkI s p ↔ c ≤ 17 ∧ p + 1 + n ≤ s.size ∧ (c = 1 → a ≤ 6)) := hopk
  have HM : Hid (mkIns s p = ⟨p, c, a, p + 1 + n⟩) := hm
  have HA : Hid (IntKind.i64.wrap (lowU s (p + 1) n : Nat) = a) := ha.symm
  have HN : Hid (behindN c = n) := hn.symm
  have hix := fun wx => run_index_nat (P := Tryz.prog) wx 9 s .i64 (p : Int) p Tryz.underlying9 rfl hlt
  rw [← hc] at hix
  clear hopk hm ha hn ha1 HB hc
  by_cases h17 : c ≤ 17
  case neg =>
    go_enter Tryz.func68, Tryz.ntmps68
    go_wp2
    refine bodyPost_ret (v := .tuple #[noV, .bool false]) (by simp [results, Tryz.results68, go_sem, noV]) rfl ?_
    exact ⟨box3 _ _, .inr ⟨fun h => h17 (HO.out.1 h).1, rfl⟩⟩
  have ct : w.cell? ⟨0, c, none⟩ = some (.int .i64 n) := by rw [HG.out.bytes c (by omega), HN.out]
  have hb0 : 0 < w.heap.size := HG.out.size
  by_cases hfit : p + 1 + n ≤ s.size
  case neg =>
    go_enter Tryz.func68, Tryz.ntmps68
    go_wp2
    refine bodyPost_ret (v := .tuple #[noV, .bool false]) (by simp [results, Tryz.results68, go_sem, noV]) rfl ?_
    exact ⟨box3 _ _, .inr ⟨fun h => hfit (HO.out.1 h).2.1, rfl⟩⟩
  have hsz : (s.extract (p + 1) s.size).size = s.size - (p + 1) := by rw [ByteArray.size_extract]; omega
  have hszn : ((s.extract (p + 1) s.size).extract 0 n).size = n := by rw [ByteArray.size_extract, hsz]; omega
  have HL : Hid (IntKind.i64.wrap (lowU ((s.extract (p + 1) s.size).extract 0 n) 0 ((s.extract (p + 1) s.size).extract 0 n).size : Nat) = a) := (by
    rw [hszn, lowU_ext _ 0 n n 0 (by rw [hszn]; omega), lowU_ext s (p + 1) s.size n _ (by rw [hsz]; omega)]
    exact HA.out : _ = a)
  have hz8 : Hid (((s.extract (p + 1) s.size).extract 0 n).size ≤ 8) := (by rw [hszn]; exact hn8 : _ ≤ 8)
  clear hsz hszn
  by_cases hatt : c = 1 ∧ 6 < a
  · obtain ⟨h1, h6⟩ := hatt
    have HX : Hid (c = 1) := h1
    have hcb : ((c : Int) == 1) = true := by simp; omega
    clear h1
    go_enter Tryz.func68, Tryz.ntmps68
    go_wp2_with (go_at_call 98; refine (lowestFirst_any _ hz8.out _).mono ?_; rintro e w' ⟨rfl, rfl⟩; rw [HL.out])
    refine bodyPost_ret (v := .tuple #[noV, .bool false]) (by simp [results, Tryz.results68, go_sem, noV]) rfl ?_
    exact ⟨box3 _ _, .inr ⟨fun h => by have := (HO.out.1 h).2.2 HX.out; omega, rfl⟩⟩
  have HK : Hid (OpOkI s p) := HO.out.2 ⟨h17, hfit, fun h => by
    by_cases h6 : 6 < a
    · exact absurd ⟨h, h6⟩ hatt
    · omega⟩
  have hcase : ((c : Int) == 1) = false ∨ (((c : Int) == 1) = true ∧ ¬ 6 < a) := by
    by_cases h : c = 1
    · exact .inr ⟨by simp; omega, fun h6 => hatt ⟨h, h6⟩⟩
    · exact .inl (by simp; omega)
  clear hatt
  rcases hcase with hc1 | ⟨hc1, hc6⟩
  all_goals
    go_enter Tryz.func68, Tryz.ntmps68
    go_wp2_with (go_at_call 98; refine (lowestFirst_any _ hz8.out _).mono ?_; rintro e w' ⟨rfl, rfl⟩; rw [HL.out])
    refine bodyPost_ret (v := .tuple #[.agg #[.int .i64 c, .int .i64 a, .int .i64 ((p : Int) + 1 + n)], .bool true]) (by simp [results, Tryz.results68, go_sem]) rfl ?_
    exact ⟨box3 _ _, .inl ⟨HK.out, by rw [HM.out]; rfl⟩⟩
set_option maxHeartbeats 1000000 in
theorem Takes_any (o : Ins) (ho : o.op ≤ 17) (w : World) (hg : GlobP w) :
    Calls Tryz.prog 92 #[opV o] w fun e w' => e = .returned (.int .i64 (takesN o.op)) ∧ Below w.heap.size w w' := by
  have ct := hg.takes o.op (by omega)
  have hb := hg.size.2.1
  clear hg
  unfold opV
  go_enter Tryz.func92, Tryz.ntmps92
  go_wp2
  go_ret
  exact ⟨rfl, box3 _ _⟩
set_option maxHeartbeats 1000000 in
theorem Lays_any (o : Ins) (ho : o.op ≤ 17) (w : World) (hg : GlobP w) :
    Calls Tryz.prog 95 #[opV o] w fun e w' => e = .returned (.int .i64 (laysN o.op)) ∧ Below w.heap.size w w' := by
  have ct := hg.lays o.op (by omega)
  have hb := hg.size.2.2
  clear hg
  unfold opV
  go_enter Tryz.func95, Tryz.ntmps95
  go_wp2
  go_ret
  exact ⟨rfl, box3 _ _⟩
set_option maxHeartbeats 1000000 in
theorem Ends_any (o : Ins) (w : World) :
    Calls Tryz.prog 94 #[opV o] w fun e w' => e = .returned (.bool (((o.op : Int) == 16) || ((o.op : Int) == 17))) ∧ Below w.heap.size w w' := by
  unfold opV
  cases h : ((o.op : Int) == 16)
  all_goals
    go_enter Tryz.func94, Tryz.ntmps94
    go_wp2
    go_ret
    exact ⟨ret_bool (by simp [h]), box3 _ _⟩
set_option maxHeartbeats 1000000 in
theorem Jumps_any (o : Ins) (w : World) :
    Calls Tryz.prog 96 #[opV o] w fun e w' => e = .returned (.bool ((((o.op : Int) == 13) || ((o.op : Int) == 14)) || ((o.op : Int) == 15))) ∧ Below w.heap.size w w' := by
  unfold opV
  cases h : ((o.op : Int) == 13) <;> cases h2 : ((o.op : Int) == 14)
  all_goals
    go_enter Tryz.func96, Tryz.ntmps96
    go_wp2
    go_ret
    exact ⟨ret_bool (by simp [h, h2]), box3 _ _⟩
set_option maxHeartbeats 1000000 in
theorem Target_any (o : Ins) (h1 : 0 ≤ o.arg) (h2 : o.arg ≤ 65535) (h3 : o.next ≤ 100000) (w : World) :
    Calls Tryz.prog 97 #[opV o] w fun e w' => e = .returned (.int .i64 ((o.next : Int) + o.arg)) ∧ Below w.heap.size w w' := by
  unfold opV
  go_enter Tryz.func97, Tryz.ntmps97
  go_wp2
  go_ret
  exact ⟨rfl, box3 _ _⟩
end Go.Proofs.YtcdnhopeojkmkaaGreatDoor
namespace Go.Proofs.YtcdnhopeojkmkaaGreatDoor
open Go.RowKit
end Go.Proofs.YtcdnhopeojkmkaaGreatDoor
namespace Go.Proofs.YtcdnhopeojkmkaaGreatDoor
open Go.RowKit
theorem Tryz.infoInt : (Tryz.prog.info? 3).map (fun i => (i.zero, i.size, i.bytes)) = some (some (.int .i64 0), 1, 8) := by kernel_rfl
end Go.Proofs.YtcdnhopeojkmkaaGreatDoor
