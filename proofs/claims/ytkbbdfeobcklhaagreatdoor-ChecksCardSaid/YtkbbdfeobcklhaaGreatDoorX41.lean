/-
  The document's kind at an operand of one token, and at every tree.
-/
import Derived.Test.YtkbbdfeobcklhaaGreatDoorX40
set_option linter.unusedVariables false
set_option linter.unusedSimpArgs false
namespace Go.Proofs.YtkbbdfeobcklhaaGreatDoor
open Go.RowKit Go.Deep

set_option maxHeartbeats 1000000 in
theorem kind_leaf (l : List Stm) (ks : List Nat) (hk : ks.length = l.length) (hl4 : l.length ≤ 400) (t : Tr) (ht : t.wf) (a : RTok) (hs : t.strip = .leaf a) (hne : a.text ≠ []) : KindOk l ks t := by
  intro v w lv kv h4 hv hlv hkv
  have HSW : Hid (Tr.leaf a).wf := (hs ▸ t.strip_wf ht : (Tr.leaf a).wf)
  have h4' : (Tr.leaf a).toks.length ≤ 400 := by rw [← hs]; exact Nat.le_trans t.strip_len h4
  have h0 : 0 < (Tr.leaf a).toks.length := by simp [Tr.toks_leaf]
  have HRT : Hid (rootR (Tr.leaf a).toks = -1) := root_none _ HSW.out rfl
  have hz : Hid (0 < (bsOf a.text).size) := (by rw [bsOf_size]; exact List.length_pos_iff.2 hne : 0 < (bsOf a.text).size)
  rw [kindT_of_strip, hs]
  have HV : Hid (Reads (w.alloc (.cells #[lv, kv] 42)) v t.toks.length (cellsR t.toks)) := hv.alloc _
  have HLV : Hid (Reads (w.alloc (.cells #[lv, kv] 42)) lv l.length (cellsS l)) := hlv.alloc _
  have HKV : Hid (Reads (w.alloc (.cells #[lv, kv] 42)) kv ks.length (cellsI ks)) := hkv.alloc _
  have HS : Hid (t.strip = .leaf a) := hs
  have HKK : Hid (ks.length = l.length) := hk
  clear hs hv hlv hkv hk
  cases hn : nameT a.text
  · have hkt : kindT ((l.map Stm.name).zip ks) (.leaf a) = .ok (leafKindT a.text) := by simp [kindT_leaf, hn]
    rw [hkt]; clear hkt
    go_enter Tryz.func71, Tryz.ntmps71
    go_wp2_with (first | (go_at_call 102; refine (inside_any t ht _ _ h4 HV.out).mono ?_; rintro e _ ⟨⟨v', rfl, hr'⟩, rfl⟩; rw [HS.out] at hr'; have HR' : Hid (Reads _ v' _ _) := hr'; clear hr'; obtain ⟨g, o, cap, rfl, hncap, hlt, hc0⟩ := HR'.out.pos h0; have tx : (w.alloc (.cells #[lv, kv] 42)).cell? ⟨g, o, none⟩ = some (.string (bsOf a.text)) := hc0 0 _ (cellsR_get (Tr.leaf a).toks 0 h0).1; clear hc0) | (go_at_call 103; refine (root_any (Tr.leaf a).toks _ _ h0 h4' HR'.out).mono ?_; rintro e _ ⟨rfl, rfl⟩; rw [HRT.out]) | (go_at_call 104; refine (one_any (Tr.leaf a) HSW.out rfl (by intro _ _ _ h; cases h) _ _ h4' HR'.out).mono ?_; rintro e _ ⟨rfl, rfl⟩; simp only [Tr.isUn_leaf]) | (go_at_call 67; refine (isName_any _ hz.out _).mono ?_; rintro e w1 ⟨rfl, hb1⟩; simp only [bsOf_toList, hn]; have tx1 := (hb1.cell (p := ⟨g, o, none⟩) hlt).trans tx) | (go_at_call 111; refine (leafKind_any _ _).mono ?_; rintro e w2 ⟨rfl, hb2⟩; simp only [bsOf_toList]))
    go_ret2
    exact ⟨rfl, (((Below.refl w.heap.size w).alloc (Nat.le_refl _) _).trans (hb1.mono (by simp))).trans (hb2.mono (by have := hb1.size; simp at this; omega))⟩
  · have hkt : kindT ((l.map Stm.name).zip ks) (.leaf a) = .ok (knownT ((l.map Stm.name).zip ks) a.text) := by simp [kindT_leaf, hn]
    rw [hkt]; clear hkt
    go_enter Tryz.func71, Tryz.ntmps71
    go_wp2_with (first | (go_at_call 102; refine (inside_any t ht _ _ h4 HV.out).mono ?_; rintro e _ ⟨⟨v', rfl, hr'⟩, rfl⟩; rw [HS.out] at hr'; have HR' : Hid (Reads _ v' _ _) := hr'; clear hr'; obtain ⟨g, o, cap, rfl, hncap, hlt, hc0⟩ := HR'.out.pos h0; have tx : (w.alloc (.cells #[lv, kv] 42)).cell? ⟨g, o, none⟩ = some (.string (bsOf a.text)) := hc0 0 _ (cellsR_get (Tr.leaf a).toks 0 h0).1; clear hc0) | (go_at_call 103; refine (root_any (Tr.leaf a).toks _ _ h0 h4' HR'.out).mono ?_; rintro e _ ⟨rfl, rfl⟩; rw [HRT.out]) | (go_at_call 104; refine (one_any (Tr.leaf a) HSW.out rfl (by intro _ _ _ h; cases h) _ _ h4' HR'.out).mono ?_; rintro e _ ⟨rfl, rfl⟩; simp only [Tr.isUn_leaf]) | (go_at_call 67; refine (isName_any _ hz.out _).mono ?_; rintro e w1 ⟨rfl, hb1⟩; simp only [bsOf_toList, hn]; have tx1 := (hb1.cell (p := ⟨g, o, none⟩) hlt).trans tx; have k0 := (hb1.cell (p := ⟨w.heap.size, 0, none⟩) (by simp)).trans (show (w.alloc (.cells #[lv, kv] 42)).cell? ⟨w.heap.size, 0, none⟩ = some lv by simp); have k1 := (hb1.cell (p := ⟨w.heap.size, 1, none⟩) (by simp)).trans (show (w.alloc (.cells #[lv, kv] 42)).cell? ⟨w.heap.size, 1, none⟩ = some kv by simp)))
    go_region_held3 (fun w' => w'.cell? ⟨w.heap.size, 0, none⟩ = some lv ∧ w'.cell? ⟨w.heap.size, 1, none⟩ = some kv ∧ w'.cell? ⟨g, o, none⟩ = some (.string (bsOf a.text))) (go_keep) ((go_at_call 110; refine (known_any l ks HKK.out hl4 _ lv kv _ (HLV.out.below hb1).drew (HKV.out.below hb1).drew).mono ?_; rintro e w2 ⟨rfl, hb2⟩; simp only [bsOf_toList]; have k2 := (hb2.cell (p := ⟨w.heap.size, 0, none⟩) (by have := hb1.size; simp at this ⊢; omega)).trans k0; have k3 := (hb2.cell (p := ⟨w.heap.size, 1, none⟩) (by have := hb1.size; simp at this ⊢; omega)).trans k1; have k4 := (hb2.cell (p := ⟨g, o, none⟩) (Nat.lt_of_lt_of_le hlt hb1.size)).trans tx1))
    go_wp2
    go_ret2
    exact ⟨rfl, (((Below.refl w.heap.size w).alloc (Nat.le_refl _) _).trans (hb1.mono (by simp))).drew.trans (hb2.mono (by have := hb1.size; simp at this ⊢; omega))⟩

def Tr.texts (t : Tr) : Prop := ∀ x ∈ t.toks, x.text ≠ []
theorem stripB_sub : ∀ t : BT (RTok × RTok), ∀ x ∈ toksB (stripB t), x ∈ toksB t
  | .nil, _, hx => hx
  | .node 0 _ _ _ _, _, hx => hx
  | .node 1 _ _ _ _, _, hx => hx
  | .node 2 _ _ _ _, _, hx => hx
  | .node 3 _ a e _, x, hx => by simp only [toksB, List.mem_cons, List.mem_append]; exact .inr (.inl (stripB_sub e x hx))
  | .node (_ + 4) _ _ _ _, _, hx => hx
theorem Tr.strip_sub (t : Tr) : ∀ x ∈ t.strip.toks, x ∈ t.toks := stripB_sub t
theorem Tr.strip_not_par (t : Tr) (h : t.wf) : ∀ o e c, t.strip ≠ .par o e c := by
  refine Tr.ind (P := fun t => ∀ o e c, t.strip ≠ .par o e c) t h ?_ ?_ ?_ ?_
  · intro a _ o e c h; cases h
  · intro op e _ _ o e' c h; cases h
  · intro op l r _ _ _ o e c h; cases h
  · intro o e c _ ih; exact ih
theorem kind_all (l : List Stm) (ks : List Nat) (hk : ks.length = l.length) (hl4 : l.length ≤ 400) : ∀ (n : Nat) (t : Tr), t.toks.length ≤ n → t.wf → t.texts → KindOk l ks t
  | 0, t, hn, _, _ => by have := t.toks_pos; omega
  | n + 1, t, hn, hw, ht => by
    have hsw := t.strip_wf hw
    have hsl := t.strip_len
    have hst : t.strip.texts := fun x hx => ht x (t.strip_sub x hx)
    rcases t.strip.cases hsw with ⟨a, hs⟩ | ⟨op, e, hs⟩ | ⟨op, a, b, hs⟩ | ⟨o, e, c, hs⟩
    · refine kind_leaf l ks hk hl4 t hw a hs ?_
      rw [hs] at hst
      exact hst a (by simp [Tr.toks_leaf])
    · rw [hs] at hsw hsl hst
      refine kindR_un l ks t hw op e hs (kind_all l ks hk hl4 n e ?_ (Tr.wf_un hsw).2.2 (fun x hx => hst x (by simp [Tr.toks_un, hx])))
      simp [Tr.toks_un] at hsl
      omega
    · rw [hs] at hsw hsl hst
      have ha := a.toks_pos
      have hb := b.toks_pos
      simp [Tr.toks_bin] at hsl
      exact kindR_bin l ks t hw op a b hs (kind_all l ks hk hl4 n a (by omega) (Tr.wf_bin hsw).2.2.2.2.2.1 (fun x hx => hst x (by simp [Tr.toks_bin, hx]))) (kind_all l ks hk hl4 n b (by omega) (Tr.wf_bin hsw).2.2.2.2.2.2 (fun x hx => hst x (by simp [Tr.toks_bin, hx])))
    · exact absurd hs (t.strip_not_par hw o e c)
end Go.Proofs.YtkbbdfeobcklhaaGreatDoor
