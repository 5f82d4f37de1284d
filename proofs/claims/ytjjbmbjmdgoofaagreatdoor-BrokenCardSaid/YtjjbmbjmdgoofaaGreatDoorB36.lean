/-
  Policies under way: what one more rule makes of one.
-/
import Derived.Test.YtjjbmbjmdgoofaaGreatDoorB35
set_option linter.unusedVariables false
set_option linter.unusedSimpArgs false
namespace Go.Proofs.YtjjbmbjmdgoofaaGreatDoor
open Go.RowKit Go.Deep
abbrev OptP := Option (ByteArray × Wo)
def toO (o : OptP) : Option (Txt × Wo) := o.map (fun p => (p.1.toList, p.2))
def whT (o : OptP) : Txt := match o with
  | none => []
  | some p => cWhen ++ 32 :: (p.1.toList ++ [32])
structure WhenIs (C : Ctx → Prop) (T : ByteArray) (K : Nat) (V : Int) (S : Nat) (d : Bool) (T1 : ByteArray) (K1 : Nat) (V1 : Int) (S1 : Nat) (d1 a1 : Bool) (o : OptP) : Prop where
  txt : T1.toList = T.toList ++ whT o
  len : T1.size ≤ T.size + 62
  is : ∀ E, C E → IsO E (toO o) 2 25
  stp : S1 ≤ S + 100
  say : (d = true ∧ K1 = K ∧ V1 = V ∧ S1 = S ∧ d1 = true) ∨ (d = false ∧ d1 = true ∧ K1 = 2 ∧ ∃ tw kw, o = some (tw, kw) ∧ kw.flt ≠ 0 ∧ V1 = (kw.flt : Int) ∧ S1 = S + kw.steps) ∨ (d = false ∧ d1 = false ∧ K1 = 0 ∧ V1 = 0 ∧ ((o = none ∧ a1 = true ∧ S1 = S) ∨ ∃ tw kw, o = some (tw, kw) ∧ kw.flt = 0 ∧ (kw.v = 0 ∨ kw.v = 1) ∧ a1 = (kw.v == 1) ∧ S1 = S + whenW kw))
def RSay (K : Nat) (V : Int) (S : Nat) (d : Bool) (K2 : Nat) (V2 : Int) (S2 : Nat) (d2 : Bool) (r : MadeR) : Prop :=
  (d = true ∧ K2 = K ∧ V2 = V ∧ S2 = S ∧ d2 = true) ∨ (d = false ∧ d2 = true ∧ ∃ c, S2 = S + c ∧ ∀ rest, sayO (r.1.map Prod.snd) (r.2.map Prod.snd) rest = (K2, V2, c)) ∨ (d = false ∧ d2 = false ∧ K2 = 0 ∧ V2 = 0 ∧ ∃ c, S2 = S + c ∧ ∀ rest : Nat × Int × Nat, sayO (r.1.map Prod.snd) (r.2.map Prod.snd) rest = (rest.1, rest.2.1, c + rest.2.2))
structure RuleIs (C : Ctx → Prop) (T : ByteArray) (K : Nat) (V : Int) (S : Nat) (d : Bool) (T2 : ByteArray) (K2 : Nat) (V2 : Int) (S2 : Nat) (d2 : Bool) (r : MadeR) : Prop where
  txt : T2.toList = T.toList ++ (ruleB (r.1.map Prod.fst) (r.2.map Prod.fst) ++ [59])
  len : T2.size ≤ T.size + 152
  is : ∀ E, C E → IsO E r.1 2 25 ∧ IsO E r.2 1 50
  stp : S2 ≤ S + 200
  say : RSay K V S d K2 V2 S2 d2 r
theorem whT_act (o : OptP) (sc : Option Txt) : whT o ++ actB sc = ruleB ((toO o).map Prod.fst) sc := by
  cases o with
  | none => rfl
  | some p => simp [whT, ruleB, toO]
theorem actO_fine {e : Wo} (h : e.flt = 0) : actO (some e) = (1, e.v, e.steps + 1) := by
  show (if e.flt ≠ 0 then _ else _) = _
  rw [if_neg (by simpa using h)]
theorem actO_bad {e : Wo} (h : e.flt ≠ 0) : actO (some e) = (2, (e.flt : Int), e.steps) := by
  show (if e.flt ≠ 0 then _ else _) = _
  rw [if_pos h]
section
variable {C : Ctx → Prop} {T T1 : ByteArray} {K K1 S S1 : Nat} {V V1 : Int} {d d1 a1 : Bool} {o : OptP}
theorem isO_none {E : Ctx} {kd p : Nat} : IsO E none kd p := fun q h => by cases h
theorem WhenIs.skip (h : WhenIs C T K V S d T1 K1 V1 S1 d1 a1 o) (hn : d1 = true ∨ a1 = false) (sc : Option (Txt × Wo)) (T2 : ByteArray) (ht : T2.toList = T1.toList ++ (actB (sc.map Prod.fst) ++ [59])) (hl : T2.size ≤ T1.size + 90) (hs : ∀ E, C E → IsO E sc 1 50) : RuleIs C T K V S d T2 K1 V1 S1 d1 (toO o, sc) := by
  refine ⟨?_, by have := h.len; omega, fun E hE => ⟨h.is E hE, hs E hE⟩, by have := h.stp; omega, ?_⟩
  · rw [ht, h.txt, ← whT_act]; simp
  · rcases h.say with h1 | ⟨h1, h2, h3, tw, kw, rfl, h5, h6, h7⟩ | ⟨h1, h2, h3, h4, h5⟩
    · exact .inl h1
    · refine .inr (.inl ⟨h1, h2, kw.steps, h7, fun rest => ?_⟩)
      show sayO (some kw) _ rest = _
      unfold sayO
      simp only [if_pos h5, h3, h6]
    · rcases hn with hn | hn
      · rw [h2] at hn; cases hn
      · rcases h5 with ⟨rfl, h6, _⟩ | ⟨tw, kw, rfl, h6, h7, h8, h9⟩
        · rw [hn] at h6; cases h6
        · refine .inr (.inr ⟨h1, h2, h3, h4, whenW kw, h9, fun rest => ?_⟩)
          have hv : kw.v = 0 := by
            rcases h7 with h | h
            · exact h
            · rw [hn, h] at h8; cases h8
          show sayO (some kw) _ rest = _
          unfold sayO
          simp only [if_neg (show ¬ (kw.flt ≠ 0) by simpa using h6), if_pos hv]
theorem WhenIs.act (h : WhenIs C T K V S d T1 K1 V1 S1 d1 a1 o) (hd : d1 = false) (ha : a1 = true) (sc : Option (Txt × Wo)) (T2 : ByteArray) (ht : T2.toList = T1.toList ++ (actB (sc.map Prod.fst) ++ [59])) (hl : T2.size ≤ T1.size + 90) (hs : ∀ E, C E → IsO E sc 1 50) (K2 : Nat) (V2 : Int) (S2 : Nat) (hS2 : S2 ≤ 100) (hk : actO (sc.map Prod.snd) = (K2, V2, S2)) : RuleIs C T K V S d T2 K2 V2 (S1 + S2) true (toO o, sc) := by
  refine ⟨?_, by have := h.len; omega, fun E hE => ⟨h.is E hE, hs E hE⟩, by have := h.stp; omega, ?_⟩
  · rw [ht, h.txt, ← whT_act]; simp
  · rcases h.say with ⟨_, _, _, _, h1⟩ | ⟨_, h1, _⟩ | ⟨h1, h2, h3, h4, h5⟩
    · rw [hd] at h1; cases h1
    · rw [hd] at h1; cases h1
    · rcases h5 with ⟨rfl, _, h6⟩ | ⟨tw, kw, rfl, h6, h7, h8, h9⟩
      · refine .inr (.inl ⟨h1, rfl, S2, by rw [h6], fun rest => ?_⟩)
        show actO (sc.map Prod.snd) = _
        exact hk
      · refine .inr (.inl ⟨h1, rfl, whenW kw + S2, by rw [h9]; omega, fun rest => ?_⟩)
        have hv : ¬ (kw.v = 0) := by
          intro h0
          rw [ha, h0] at h8
          cases h8
        show sayO (some kw) (sc.map Prod.snd) rest = _
        unfold sayO
        simp only [if_neg (show ¬ (kw.flt ≠ 0) by simpa using h6), if_neg hv, hk]
end
theorem rules_one {K2 S2 : Nat} {V2 : Int} {d2 : Bool} {r : MadeR} (h : RSay 0 0 0 false K2 V2 S2 d2 r) : rulesO [r] = (K2, V2, if d2 then S2 else S2 + 1) := by
  show sayO _ _ (0, 0, 1) = _
  rcases h with ⟨h1, _⟩ | ⟨_, rfl, c, h1, h2⟩ | ⟨_, rfl, rfl, rfl, c, h1, h2⟩
  · cases h1
  · rw [h2, h1]; simp
  · rw [h2, h1]; simp
theorem rules_two {K1 S1 K2 S2 : Nat} {V1 V2 : Int} {d1 d2 : Bool} {r q : MadeR} (h : RSay 0 0 0 false K1 V1 S1 d1 r) (g : RSay K1 V1 S1 d1 K2 V2 S2 d2 q) : rulesO [r, q] = (K2, V2, if d2 then S2 else S2 + 1) := by
  show sayO _ _ (sayO _ _ (0, 0, 1)) = _
  rcases h with ⟨h1, _⟩ | ⟨_, rfl, c, h1, h2⟩ | ⟨_, rfl, rfl, rfl, c, h1, h2⟩
  · cases h1
  · rcases g with ⟨_, rfl, rfl, rfl, rfl⟩ | ⟨g1, _⟩ | ⟨g1, _⟩
    · rw [h2, h1]; simp
    · cases g1
    · cases g1
  · rcases g with ⟨g1, _⟩ | ⟨_, rfl, e, g1, g2⟩ | ⟨_, rfl, rfl, rfl, e, g1, g2⟩
    · cases g1
    · rw [h2, g2, g1, h1]; simp
    · rw [h2, g2, g1, h1]; simp; omega
end Go.Proofs.YtjjbmbjmdgoofaaGreatDoor
namespace Go.Proofs.YtjjbmbjmdgoofaaGreatDoor
open Go.RowKit
structure QuaP (w wx : World) (c1 c2 c3 c4 : Array Value) : Prop where
  p : Blk wx (w.heap.size) c1 66
  q : Blk wx (w.heap.size + 1) c2 66
  o : Blk wx (w.heap.size + 1 + 1) c3 66
  r : Blk wx (w.heap.size + 1 + 1 + 1) c4 66
  bl : Below w.heap.size w wx
section
variable {w wx w' : World} {c1 c2 c3 c4 : Array Value}
theorem QuaP.below (h : QuaP w wx c1 c2 c3 c4) (hb : Below wx.heap.size wx w') : QuaP w w' c1 c2 c3 c4 :=
  ⟨h.p.below hb h.p.lt, h.q.below hb h.q.lt, h.o.below hb h.o.lt, h.r.below hb h.r.lt, h.bl.trans (hb.mono h.bl.size)⟩
theorem QuaP.drew (h : QuaP w wx c1 c2 c3 c4) : QuaP w wx.drew c1 c2 c3 c4 := ⟨h.p, h.q, h.o, h.r, below_drewN h.bl 1⟩
theorem QuaP.setR (h : QuaP w wx c1 c2 c3 c4) (i : Nat) (v : Value) : QuaP w (wx.setCell ⟨w.heap.size + 1 + 1 + 1, i, none⟩ v) c1 c2 c3 (c4.setIfInBounds i v) :=
  ⟨h.p.other _ _ (by simp only; omega), h.q.other _ _ (by simp only; omega), h.o.other _ _ (by simp only; omega), h.r.set i v, h.bl.setCell (p := ⟨w.heap.size + 1 + 1 + 1, i, none⟩) (by simp only; omega) v⟩
theorem QuaP.setO (h : QuaP w wx c1 c2 c3 c4) (i : Nat) (v : Value) : QuaP w (wx.setCell ⟨w.heap.size + 1 + 1, i, none⟩ v) c1 c2 (c3.setIfInBounds i v) c4 :=
  ⟨h.p.other _ _ (by simp only; omega), h.q.other _ _ (by simp only; omega), h.o.set i v, h.r.other _ _ (by simp only; omega), h.bl.setCell (p := ⟨w.heap.size + 1 + 1, i, none⟩) (by simp only; omega) v⟩
theorem QuaP.facts (h : QuaP w wx c1 c2 c3 c4) : (∀ i, wx.cell? ⟨w.heap.size, i, none⟩ = c1[i]?) ∧ (∀ i, wx.cell? ⟨w.heap.size + 1, i, none⟩ = c2[i]?) ∧ (∀ i, wx.cell? ⟨w.heap.size + 1 + 1, i, none⟩ = c3[i]?) ∧ (∀ i, wx.cell? ⟨w.heap.size + 1 + 1 + 1, i, none⟩ = c4[i]?) ∧ (∀ i, wx.frozen? ⟨w.heap.size + 1 + 1, i, none⟩ = false) ∧ (∀ i, wx.frozen? ⟨w.heap.size + 1 + 1 + 1, i, none⟩ = false) :=
  ⟨fun i => h.p.cell i, fun i => h.q.cell i, fun i => h.o.cell i, fun i => h.r.cell i, fun i => h.o.free i, fun i => h.r.free i⟩
end
theorem qua_start (w : World) (c1 c2 c3 c4 : Array Value) : QuaP w ((((w.alloc (.cells c1 66)).alloc (.cells c2 66)).alloc (.cells c3 66)).alloc (.cells c4 66)) c1 c2 c3 c4 := by
  have d := duo_startP w c1 c2
  have h3 := (((d.box.alloc (.cells c3 66)).alloc (.cells c4 66)))
  have h4 := (((d.res.alloc (.cells c3 66)).alloc (.cells c4 66)))
  have h5 := (Blk.new ((w.alloc (.cells c1 66)).alloc (.cells c2 66)) c3 66).alloc (.cells c4 66)
  have h6 := Blk.new (((w.alloc (.cells c1 66)).alloc (.cells c2 66)).alloc (.cells c3 66)) c4 66
  exact ⟨h3, h4, by simpa using h5, by simpa using h6, (d.bl.alloc (by simp; omega) _).alloc (by simp; omega) _⟩
def finQ6 (w wx : World) (a b c d e f : Value) : World :=
  (((((wx.setCell ⟨w.heap.size + 1 + 1, 0, none⟩ a).setCell ⟨w.heap.size + 1 + 1, 1, none⟩ b).setCell ⟨w.heap.size + 1 + 1, 2, none⟩ c).setCell ⟨w.heap.size + 1 + 1, 3, none⟩ d).setCell ⟨w.heap.size + 1 + 1, 4, none⟩ e).setCell ⟨w.heap.size + 1 + 1, 5, none⟩ f
theorem QuaP.fin {w wx : World} {c1 c2 c4 : Array Value} {z0 z1 z2 z3 z4 z5 : Value} (h : QuaP w wx c1 c2 #[z0, z1, z2, z3, z4, z5] c4) (a b c d e f : Value) : (∀ i, (finQ6 w wx a b c d e f).cell? ⟨w.heap.size + 1 + 1, i, none⟩ = #[a, b, c, d, e, f][i]?) ∧ Below w.heap.size w (finQ6 w wx a b c d e f) := by
  have g := (((((h.setO 0 a).setO 1 b).setO 2 c).setO 3 d).setO 4 e).setO 5 f
  exact ⟨g.o.cell, g.bl⟩
theorem QuaP.twelve {w wx : World} {a0 a1 a2 a3 a4 a5 b0 b1 b2 b3 b4 b5 : Value} {c3 c4 : Array Value} (h : QuaP w wx #[a0, a1, a2, a3, a4, a5] #[b0, b1, b2, b3, b4, b5] c3 c4) :
    wx.cell? ⟨w.heap.size, 0, none⟩ = some a0 ∧ wx.cell? ⟨w.heap.size, 1, none⟩ = some a1 ∧ wx.cell? ⟨w.heap.size, 2, none⟩ = some a2 ∧ wx.cell? ⟨w.heap.size, 3, none⟩ = some a3 ∧ wx.cell? ⟨w.heap.size, 4, none⟩ = some a4 ∧ wx.cell? ⟨w.heap.size, 5, none⟩ = some a5 ∧ wx.cell? ⟨w.heap.size + 1, 0, none⟩ = some b0 ∧ wx.cell? ⟨w.heap.size + 1, 1, none⟩ = some b1 ∧ wx.cell? ⟨w.heap.size + 1, 2, none⟩ = some b2 ∧ wx.cell? ⟨w.heap.size + 1, 3, none⟩ = some b3 ∧ wx.cell? ⟨w.heap.size + 1, 4, none⟩ = some b4 ∧ wx.cell? ⟨w.heap.size + 1, 5, none⟩ = some b5 :=
  ⟨h.p.cell 0, h.p.cell 1, h.p.cell 2, h.p.cell 3, h.p.cell 4, h.p.cell 5, h.q.cell 0, h.q.cell 1, h.q.cell 2, h.q.cell 3, h.q.cell 4, h.q.cell 5⟩
structure TwoT (P Q : Array Value) (o T1 T2 : ByteArray) (lv : Nat) : Prop where
  t1 : ∀ wx, Calls Tryz.prog 78 #[.agg P, .int .i64 lv] wx fun e w' => e = .returned (.string T1) ∧ Below wx.heap.size wx w'
  t2 : ∀ wx, Calls Tryz.prog 78 #[.agg Q, .int .i64 ((lv : Int) + 1)] wx fun e w' => e = .returned (.string T2) ∧ Below wx.heap.size wx w'
  y1 : (9223372036854775807 < T1.size + 1) = False
  y2 : (9223372036854775807 < T1.size + 1 + o.size) = False
  y3 : (9223372036854775807 < T1.size + 1 + o.size + 1) = False
  y4 : (9223372036854775807 < T1.size + 1 + o.size + 1 + T2.size) = False
  wl : IntKind.i64.wrap ((lv : Int) + 1) = (lv : Int) + 1
theorem twoT_of (o t1 t2 : ByteArray) (b1 b2 : Nat) (k1 k2 : Wo) (lv : Nat) (ho : o.size ≤ 10) (h1 : t1.size ≤ 1000) (h2 : t2.size ≤ 1000) (hl : lv ≤ 5) : TwoT (pcA t1 b1 k1) (pcA t2 b2 k2) o (tiedT t1 b1 lv) (tiedT t2 b2 (lv + 1)) lv := by
  have hsz : ∀ (t : ByteArray) (b l : Nat), t.size ≤ 1000 → (tiedT t b l).size ≤ 1002 := fun t b l h => by
    have e1 : (⟨#[40]⟩ : ByteArray).size = 1 := rfl
    have e2 : (⟨#[41]⟩ : ByteArray).size = 1 := rfl
    unfold tiedT; split <;> (try simp only [ByteArray.size_append, e1, e2]) <;> omega
  have y1 := hsz t1 b1 lv h1
  have y2 := hsz t2 b2 (lv + 1) h2
  refine ⟨fun wx => tied_any t1 b1 k1 lv h1 wx, fun wx => tied_any t2 b2 k2 (lv + 1) h2 wx, ?_, ?_, ?_, ?_, ?_⟩
  · simp; omega
  · simp; omega
  · simp; omega
  · simp; omega
  · rw [IntWalk.i64_left]
    exact IntWalk.wrap64_in _ ⟨by omega, by omega⟩
end Go.Proofs.YtjjbmbjmdgoofaaGreatDoor
