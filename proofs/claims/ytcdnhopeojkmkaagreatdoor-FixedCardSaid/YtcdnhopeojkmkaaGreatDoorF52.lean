/-
  Fixed.
  Fixed, for all arguments.
  The program's tables, out of what its text lays: each cell of them.
-/
import Derived.Test.YtcdnhopeojkmkaaGreatDoorF44
import Derived.Test.YtcdnhopeojkmkaaGreatDoorF51
import Derived.Test.YtcdnhopeojkmkaaGreatDoorF32
import Derived.Test.YtcdnhopeojkmkaaGreatDoorRows
import Derived.ProofKit
import Derived.LaidMore
import Derived.OpenShut
import Derived.Stop.Joined
set_option linter.unusedVariables false
set_option linter.unusedSimpArgs false
namespace Go.Proofs.YtcdnhopeojkmkaaGreatDoor
open Go.RowKit Go.Deep

/-- Numbers, classes, sums and tests of a Maker without a let. -/
theorem none_num {x : Itm} {y : Bn} (hx : x.Ok) (hy : y.Ok) (mb fb : Nat) (st : Bool) : ∀ w, MakAt w mb fb x y (.string { data := #[] }) (.int .i64 0) (.int .i64 0) (.int .i64 0) (.int .i64 0) (.bool false) st → Calls Tryz.prog 39 #[.pointer (some ⟨mb, 0, none⟩)] w fun e w' => (∃ t k, Pc (fun E => E = ctx0 x y) t 6 k 1 10 0 1 1 st ∧ e = .returned (pcV t 6 k)) ∧ MakAt w' mb fb x y (.string { data := #[] }) (.int .i64 0) (.int .i64 0) (.int .i64 0) (.int .i64 0) (.bool false) st ∧ But fb w w' := fun w h => by
  refine (number_any mb fb x y ⟨#[]⟩ 0 (fun h => absurd rfl h) ⟨0, 0, 0, false⟩ st w h).mono ?_
  rintro e w' ⟨⟨t, k, hn, he⟩, h1, h2⟩
  exact ⟨⟨t, k, num_pc (fun E hE => by subst hE; exact ⟨ctx0_ok x y, rfl, rfl⟩) hx hy (Nat.le_refl _) (Nat.le_refl _) (fun h => absurd rfl h) hn, he⟩, h1, h2⟩
theorem any_class {C : Ctx → Prop} {x : Itm} {y : Bn} (hC : ∀ E, C E → E.Ok ∧ E.x = x ∧ E.y = y) (hx : x.Ok) (hy : y.Ok) (mb fb : Nat) (l0 l1 l2 l3 l4 l5 : Value) (st : Bool) {L D P S : Nat} (h1 : 4 ≤ L) (h2 : 1 ≤ P) (h3 : 1 ≤ S) : ClassDoes C mb fb x y l0 l1 l2 l3 l4 l5 st L D P S := fun w h => by
  refine (class_any mb fb x y l0 l1 l2 l3 l4 l5 st w h).mono ?_
  rintro e w' ⟨⟨t, k, hn, he⟩, q1, q2⟩
  exact ⟨⟨t, 6, k, (class_pc hC hx hy hn).mono h1 (Nat.zero_le _) h2 h3, he⟩, q1, q2⟩
theorem SumDoes.more {C : Ctx → Prop} {mb fb : Nat} {x : Itm} {y : Bn} {l0 l1 l2 l3 l4 l5 : Value} {st : Bool} {L D P S L' D' P' S' n : Nat} (h : SumDoes C mb fb x y l0 l1 l2 l3 l4 l5 st L D P S n) (h1 : L ≤ L') (h2 : D ≤ D') (h3 : P ≤ P') (h4 : S ≤ S') : SumDoes C mb fb x y l0 l1 l2 l3 l4 l5 st L' D' P' S' n := fun w hw => by
  refine (h w hw).mono ?_
  rintro e w' ⟨⟨t, b, k, hp, he⟩, q1, q2⟩
  exact ⟨⟨t, b, k, hp.mono h1 h2 h3 h4, he⟩, q1, q2⟩
theorem TestDoes.more {C : Ctx → Prop} {mb fb : Nat} {x : Itm} {y : Bn} {l0 l1 l2 l3 l4 l5 : Value} {st : Bool} {L D P S L' D' P' S' n : Nat} (h : TestDoes C mb fb x y l0 l1 l2 l3 l4 l5 st L D P S n) (h1 : L ≤ L') (h2 : D ≤ D') (h3 : P ≤ P') (h4 : S ≤ S') : TestDoes C mb fb x y l0 l1 l2 l3 l4 l5 st L' D' P' S' n := fun w hw => by
  refine (h w hw).mono ?_
  rintro e w' ⟨⟨t, b, k, hp, he⟩, q1, q2⟩
  exact ⟨⟨t, b, k, hp.mono h1 h2 h3 h4, he⟩, q1, q2⟩
/-- Tests so deep as 2. -/
theorem test_does {C : Ctx → Prop} {x : Itm} {y : Bn} (hC : ∀ E, C E → E.Ok ∧ E.x = x ∧ E.y = y) (hx : x.Ok) (hy : y.Ok) (mb fb : Nat) (l0 l1 l2 l3 l4 l5 : Value) (st : Bool) (P S : Nat) (hP : 1 ≤ P ∧ P ≤ 6) (hS : 1 ≤ S ∧ S ≤ 6)
    (s0 : SumDoes C mb fb x y l0 l1 l2 l3 l4 l5 st 14 1 (P + 1) (S + 1) 0) (s1 : SumDoes C mb fb x y l0 l1 l2 l3 l4 l5 st 37 3 (2 * P + 4) (2 * S + 5) 1) :
    TestDoes C mb fb x y l0 l1 l2 l3 l4 l5 st 56 4 (2 * max (P + 1) 4 + 2) (2 * S + 13) 1 ∧ TestDoes C mb fb x y l0 l1 l2 l3 l4 l5 st 126 6 (4 * max (P + 1) 4 + 6) (4 * S + 29) 2 := by
  have t0 := test_zero mb fb x y l0 l1 l2 l3 l4 l5 st hC (any_class hC hx hy mb fb l0 l1 l2 l3 l4 l5 st (Nat.le_refl _) (Nat.le_refl _) (Nat.le_refl _))
  have t1 := test_succ mb fb x y l0 l1 l2 l3 l4 l5 st 21 2 (max (P + 1) 4) (S + 5) 0 (by omega) (by omega) (by omega) hC (any_class hC hx hy mb fb l0 l1 l2 l3 l4 l5 st (by omega) (by omega) (by omega)) (s0.more (by omega) (by omega) (by omega) (by omega)) (t0.more (by omega) (by omega) (by omega) (by omega))
  have e1 : max (P + 1) 4 + max (P + 1) 4 + 2 = 2 * max (P + 1) 4 + 2 := by omega
  have e2 : S + 5 + (S + 5) + 3 = 2 * S + 13 := by omega
  rw [e1, e2] at t1
  have t2 := test_succ mb fb x y l0 l1 l2 l3 l4 l5 st 56 4 (2 * max (P + 1) 4 + 2) (2 * S + 13) 1 (by omega) (by omega) (by omega) hC (any_class hC hx hy mb fb l0 l1 l2 l3 l4 l5 st (by omega) (by omega) (by omega)) (s1.more (by omega) (by omega) (by omega) (by omega)) t1
  have e1 : 2 * max (P + 1) 4 + 2 + (2 * max (P + 1) 4 + 2) + 2 = 4 * max (P + 1) 4 + 6 := by omega
  have e2 : 2 * S + 13 + (2 * S + 13) + 3 = 4 * S + 29 := by omega
  rw [e1, e2] at t2
  exact ⟨t1, t2⟩
/-- What lies in memory while Fixed runs: the item and the bin, the feed, the Maker, pieces. -/
structure FxSt (w wx : World) (xb : Nat) (x : Itm) (y : Bn) : Prop where
  it : Blk wx xb #[.int .i64 x.size, .int .i64 x.speed, .int .i64 x.need] 23
  bn : Blk wx (xb + 1) #[.int .i64 y.id, .int .i64 y.zone, .int .i64 y.cap, .int .i64 y.used, .int .i64 y.has] 25
  ge : w.heap.size ≤ xb
  bl : Below w.heap.size w wx
theorem FxSt.but {w wx w' : World} {xb fb : Nat} {x : Itm} {y : Bn} (h : FxSt w wx xb x y) (hB : But fb wx w') (hf : xb + 1 < fb) : FxSt w w' xb x y :=
  ⟨h.it.but hB (by omega), h.bn.but hB (by omega), h.ge, h.bl.trans (hB.below (by have := h.ge; omega) h.bl.size)⟩
theorem FxSt.below {w wx w' : World} {xb : Nat} {x : Itm} {y : Bn} (h : FxSt w wx xb x y) (hb : Below wx.heap.size wx w') : FxSt w w' xb x y :=
  ⟨h.it.below hb h.it.lt, h.bn.below hb h.bn.lt, h.ge, h.bl.trans (hb.mono h.bl.size)⟩
theorem FxSt.al {w wx : World} {xb : Nat} {x : Itm} {y : Bn} (h : FxSt w wx xb x y) (o : Obj) : FxSt w (wx.alloc o) xb x y := h.below (box3 wx o)
theorem fx_start {w w1 : World} (hb : Below w.heap.size w w1) (x : Itm) (y : Bn) (s : ByteArray) (hs : s.size ≤ maxLen) (st : Bool) (M : Array Value) (hM : M = #[.pointer (some ⟨w1.heap.size + 1 + 1, 0, none⟩), .int .i64 x.size, .int .i64 x.speed, .int .i64 x.need, .int .i64 y.id, .int .i64 y.zone, .int .i64 y.cap, .int .i64 y.used, .int .i64 y.has, .string { data := #[] }, .int .i64 0, .int .i64 0, .int .i64 0, .int .i64 0, .bool false, .bool st]) :
    FxSt w ((((w1.alloc (.cells #[.int .i64 x.size, .int .i64 x.speed, .int .i64 x.need] 23)).alloc (.cells #[.int .i64 y.id, .int .i64 y.zone, .int .i64 y.cap, .int .i64 y.used, .int .i64 y.has] 25)).alloc (.cells #[.string s, .int .i64 0] 43)).alloc (.cells M 47)) w1.heap.size x y ∧ MakAt ((((w1.alloc (.cells #[.int .i64 x.size, .int .i64 x.speed, .int .i64 x.need] 23)).alloc (.cells #[.int .i64 y.id, .int .i64 y.zone, .int .i64 y.cap, .int .i64 y.used, .int .i64 y.has] 25)).alloc (.cells #[.string s, .int .i64 0] 43)).alloc (.cells M 47)) (w1.heap.size + 1 + 1 + 1) (w1.heap.size + 1 + 1) x y (.string { data := #[] }) (.int .i64 0) (.int .i64 0) (.int .i64 0) (.int .i64 0) (.bool false) st := by
  have a1 := Blk.new w1 #[.int .i64 x.size, .int .i64 x.speed, .int .i64 x.need] 23
  have a2 := Blk.new (w1.alloc (.cells #[.int .i64 x.size, .int .i64 x.speed, .int .i64 x.need] 23)) #[.int .i64 y.id, .int .i64 y.zone, .int .i64 y.cap, .int .i64 y.used, .int .i64 y.has] 25
  have a3 := Blk.new ((w1.alloc (.cells #[.int .i64 x.size, .int .i64 x.speed, .int .i64 x.need] 23)).alloc (.cells #[.int .i64 y.id, .int .i64 y.zone, .int .i64 y.cap, .int .i64 y.used, .int .i64 y.has] 25)) #[.string s, .int .i64 0] 43
  have a4 := Blk.new (((w1.alloc (.cells #[.int .i64 x.size, .int .i64 x.speed, .int .i64 x.need] 23)).alloc (.cells #[.int .i64 y.id, .int .i64 y.zone, .int .i64 y.cap, .int .i64 y.used, .int .i64 y.has] 25)).alloc (.cells #[.string s, .int .i64 0] 43)) M 47
  rw [show (w1.alloc (.cells #[.int .i64 x.size, .int .i64 x.speed, .int .i64 x.need] 23)).heap.size = w1.heap.size + 1 by simp] at a2
  rw [show ((w1.alloc (.cells #[.int .i64 x.size, .int .i64 x.speed, .int .i64 x.need] 23)).alloc (.cells #[.int .i64 y.id, .int .i64 y.zone, .int .i64 y.cap, .int .i64 y.used, .int .i64 y.has] 25)).heap.size = w1.heap.size + 1 + 1 by simp] at a3
  rw [show (((w1.alloc (.cells #[.int .i64 x.size, .int .i64 x.speed, .int .i64 x.need] 23)).alloc (.cells #[.int .i64 y.id, .int .i64 y.zone, .int .i64 y.cap, .int .i64 y.used, .int .i64 y.has] 25)).alloc (.cells #[.string s, .int .i64 0] 43)).heap.size = w1.heap.size + 1 + 1 + 1 by simp] at a4
  have hsz := hb.size
  refine ⟨⟨((a1.alloc _).alloc _).alloc _, (a2.alloc _).alloc _, hsz, (((hb.alloc hsz _).alloc (by simp; omega) _).alloc (by simp; omega) _).alloc (by simp; omega) _⟩, ⟨by rw [← hM]; exact a4, ⟨s, 0, a3.alloc _, Nat.zero_le _, hs⟩, by omega⟩⟩
end Go.Proofs.YtcdnhopeojkmkaaGreatDoor

set_option linter.unusedVariables false
set_option linter.unusedSimpArgs false
namespace Go.Proofs.YtcdnhopeojkmkaaGreatDoor
open Go.RowKit Go.Deep

set_option maxHeartbeats 8000000 in
set_option maxRecDepth 100000 in
theorem Fixed_any (s : ByteArray) (a b c : Int) (t : ByteArray) (ha : In64 a) (hb : In64 b) (hc : In64 c) (hs : s.size ≤ maxLen) (ht : t.size ≤ maxLen) (w : World) (hg : GlobP w) (hgt : GlobT w) :
    Calls Tryz.prog 4 #[.string s, .int .i64 a, .int .i64 b, .int .i64 c, .string t] w fun e w' => Below w.heap.size w w' ∧ e = .returned (.bool true) := by
  have HA := Hid.mk2 ha
  have HB := Hid.mk2 hb
  have HC := Hid.mk2 hc
  have HS := Hid.mk2 hs
  have HTT := Hid.mk2 ht
  have HG := Hid.mk2 hg
  have HT := Hid.mk2 hgt
  clear ha hb hc ht hg hs hgt
  go_enter Tryz.func4, Tryz.ntmps4
  go_upto_region 3 with (go_at_call 7; refine (around_any a b c HA.out HB.out HC.out t HTT.out _).mono ?_; rintro e w1 ⟨⟨x, y, hx, hy, rfl⟩, hb1⟩; unfold itmA bnA; have HX := Hid.mk2 hx; have HY := Hid.mk2 hy; have HB1 := Hid.mk2 hb1; clear hx hy hb1)
  obtain ⟨hfx, hmk⟩ := fx_start HB1.out x y s HS.out true _ rfl
  have HF := Hid.mk2 hfx
  have HM := Hid.mk2 hmk
  clear hfx hmk
  generalize (((w1.alloc (.cells #[.int .i64 x.size, .int .i64 x.speed, .int .i64 x.need] 23)).alloc (.cells #[.int .i64 y.id, .int .i64 y.zone, .int .i64 y.cap, .int .i64 y.used, .int .i64 y.has] 25)).alloc (.cells #[.string s, .int .i64 0] 43)).alloc (.cells #[.pointer (some ⟨w1.heap.size + 1 + 1, 0, none⟩), .int .i64 x.size, .int .i64 x.speed, .int .i64 x.need, .int .i64 y.id, .int .i64 y.zone, .int .i64 y.cap, .int .i64 y.used, .int .i64 y.has, .string { data := #[] }, .int .i64 0, .int .i64 0, .int .i64 0, .int .i64 0, .bool false, .bool true] 47) = W at HF HM ⊢
  have hi := HF.out.it.cell; have hj := HF.out.bn.cell
  have hCC : ∀ E, (fun E => E = ctx0 x y) E → E.Ok ∧ E.x = x ∧ E.y = y := fun E hE => by
    have hE' : E = ctx0 x y := hE
    subst hE'
    exact ⟨ctx0_ok x y, rfl, rfl⟩
  obtain ⟨q0, q1, q2, q3⟩ := sum_does (w1.heap.size + 1 + 1 + 1) (w1.heap.size + 1 + 1) x y (.string { data := #[] }) (.int .i64 0) (.int .i64 0) (.int .i64 0) (.int .i64 0) (.bool false) true 1 1 (by omega) (by omega) (fun E hE => (hCC E hE).1) (none_num HX.out HY.out _ _ true)
  obtain ⟨p1, p2⟩ := test_does hCC HX.out HY.out (w1.heap.size + 1 + 1 + 1) (w1.heap.size + 1 + 1) (.string { data := #[] }) (.int .i64 0) (.int .i64 0) (.int .i64 0) (.int .i64 0) (.bool false) true 1 1 (by omega) (by omega) q0 q1
  have HSU : Hid (∀ w, MakAt w (w1.heap.size + 1 + 1 + 1) (w1.heap.size + 1 + 1) x y (.string { data := #[] }) (.int .i64 0) (.int .i64 0) (.int .i64 0) (.int .i64 0) (.bool false) true → Calls Tryz.prog 12 #[.pointer (some ⟨w1.heap.size + 1 + 1 + 1, 0, none⟩), .int .i64 3] w fun e w' => (∃ t b k, Pc (fun E => E = ctx0 x y) t b k 1 175 7 30 37 true ∧ e = .returned (pcV t b k)) ∧ MakAt w' (w1.heap.size + 1 + 1 + 1) (w1.heap.size + 1 + 1) x y (.string { data := #[] }) (.int .i64 0) (.int .i64 0) (.int .i64 0) (.int .i64 0) (.bool false) true ∧ But (w1.heap.size + 1 + 1) w w') := q3
  have HTE : Hid (∀ w, MakAt w (w1.heap.size + 1 + 1 + 1) (w1.heap.size + 1 + 1) x y (.string { data := #[] }) (.int .i64 0) (.int .i64 0) (.int .i64 0) (.int .i64 0) (.bool false) true → Calls Tryz.prog 13 #[.pointer (some ⟨w1.heap.size + 1 + 1 + 1, 0, none⟩), .int .i64 2] w fun e w' => (∃ t b k, Pc (fun E => E = ctx0 x y) t b k 2 126 6 22 37 true ∧ e = .returned (pcV t b k)) ∧ MakAt w' (w1.heap.size + 1 + 1 + 1) (w1.heap.size + 1 + 1) x y (.string { data := #[] }) (.int .i64 0) (.int .i64 0) (.int .i64 0) (.int .i64 0) (.bool false) true ∧ But (w1.heap.size + 1 + 1) w w') := p2.more (Nat.le_refl _) (Nat.le_refl _) (by decide) (by omega)
  clear hCC q0 q1 q2 q3 p1 p2
  go_upto_region 5 with (first
    | (go_at_call 12; refine (HSU.out _ HM.out).mono ?_; rintro e w2 ⟨⟨tv, bv, kv, hpv, rfl⟩, hM, hB⟩; obtain ⟨nv, fv, sv, iv⟩ := kv; unfold pcV pcA; replace HF := Hid.mk2 ((HF.out.but hB (by omega)).al (.cells (ag tv bv nv fv sv iv) 45)); replace HM := Hid.mk2 (hM.below (box3 w2 (.cells (ag tv bv nv fv sv iv) 45))); have HV := Hid.mk2 (Blk.new w2 (ag tv bv nv fv sv iv) 45); have HPV := Hid.mk2 hpv; have hlt2 : w1.heap.size + 1 + 1 < w2.heap.size := hM.fed.lt; clear hM hB hpv hi hj; have hi := HF.out.it.cell; have hj := HF.out.bn.cell; have v := HV.out.cell)
    | (go_at_call 13; refine (HTE.out _ HM.out).mono ?_; rintro e w3 ⟨⟨tw, bw, kw, hpw, rfl⟩, hM, hB⟩; obtain ⟨nw, fw, sw, iw⟩ := kw; unfold pcV pcA; replace HF := Hid.mk2 ((HF.out.but hB (by omega)).al (.cells (ag tw bw nw fw sw iw) 45)); replace HV := Hid.mk2 ((HV.out.but hB (by omega)).alloc (.cells (ag tw bw nw fw sw iw) 45)); have HW := Hid.mk2 (Blk.new w3 (ag tw bw nw fw sw iw) 45); have HPW := Hid.mk2 hpw; clear hM hB hpw HM hi hj v; have hi := HF.out.it.cell; have hj := HF.out.bn.cell; have v := HV.out.cell; have u := HW.out.cell))
  obtain ⟨I, hI⟩ := fixed_good HX.out HY.out HPW.out HPV.out
  have HCO : Hid (∀ w, GlobT w → GlobB w → Calls Tryz.prog 9 #[.string ({ data := #[119, 104, 101, 110, 32] } ++ tw ++ { data := #[32, 115, 99, 111, 114, 101, 32] } ++ tv ++ { data := #[59] })] w fun e w' => e = .returned (.tuple #[.string I, .int .i64 0, .int .i64 0]) ∧ Below w.heap.size w w') := hI.comp
  have HRUN := Hid.mk2 hI.run
  clear hI
  have z1 := HPW.out.size
  have z2 := HPV.out.size
  have y1 : (9223372036854775807 < 5 + tw.size) = False := by simp; omega
  have y2 : (9223372036854775807 < 5 + tw.size + 7) = False := by simp; omega
  have y3 : (9223372036854775807 < 5 + tw.size + 7 + tv.size) = False := by simp; omega
  have y4 : (9223372036854775807 < 5 + tw.size + 7 + tv.size + 1) = False := by simp; omega
  have htr := HPW.out.fit.truth rfl
  simp only at htr
  by_cases hfw : fw = 0
  case neg =>
    have HR0 : Hid (∀ r k, OutIs I x y r k → k = 0 ∧ r.1 = 2 ∧ r.2.1 = (fw : Int)) := Hid.mk2 (fun r k ho => by
      obtain ⟨h1, h2⟩ := HRUN.out r k ho
      have h3 := fixed_ends HPW.out.fit HPV.out.fit (HPW.out.fix rfl) (HPV.out.fix rfl) h2
      exact ⟨h1, h3.1 hfw⟩)
    have d1 : ((fw : Int) != 0) = true := by simp; omega
    clear htr hfw
    go_wp2_with (first
      | (go_at_call 9; refine (HCO.out _ (HT.out.below HF.out.bl) ⟨(HG.out.below HF.out.bl).bytes, (HG.out.below HF.out.bl).size.1⟩).mono ?_; rintro e w4 ⟨rfl, hb4⟩; replace HV := Hid.mk2 (HV.out.below hb4 HV.out.lt); replace HW := Hid.mk2 (HW.out.below hb4 HW.out.lt); replace HF := Hid.mk2 (HF.out.below hb4); clear hb4 hi hj v u; have hi := HF.out.it.cell; have hj := HF.out.bn.cell; have v := HV.out.cell; have u := HW.out.cell)
      | (go_at_call 11; refine (pRun_any I x y _ (HG.out.below HF.out.bl)).mono ?_; rintro e w5 ⟨hb5, r, k, ho, rfl⟩; obtain ⟨rfl, hr⟩ := HR0.out r k ho; obtain ⟨rk, rv, rt⟩ := r; simp only at hr; obtain ⟨rfl, rfl⟩ := hr; rw [show resA (2, (fw : Int), rt) = .agg #[.int .i64 2, .int .i64 (fw : Int), .int .i64 (rt : Nat)] from rfl]; replace HV := Hid.mk2 ((HV.out.below hb5 HV.out.lt).alloc (.cells #[.int .i64 2, .int .i64 (fw : Int), .int .i64 (rt : Nat)] 29)); replace HW := Hid.mk2 ((HW.out.below hb5 HW.out.lt).alloc (.cells #[.int .i64 2, .int .i64 (fw : Int), .int .i64 (rt : Nat)] 29)); replace HF := Hid.mk2 ((HF.out.below hb5).al (.cells #[.int .i64 2, .int .i64 (fw : Int), .int .i64 (rt : Nat)] 29)); have HR := Hid.mk2 (Blk.new w5 #[.int .i64 2, .int .i64 (fw : Int), .int .i64 (rt : Nat)] 29); clear hb5 ho hi hj v u; have hi := HF.out.it.cell; have hj := HF.out.bn.cell; have v := HV.out.cell; have u := HW.out.cell; have rr := HR.out.cell))
    all_goals go_ret
    all_goals first | exact ⟨HF.out.bl, rfl⟩ | exact ⟨HF.out.bl, by simp⟩ | (refine ⟨HF.out.bl, ?_⟩; simp)
  case pos =>
    rcases htr with hvw | hvw
    case inl =>
      have HR0 : Hid (∀ r k, OutIs I x y r k → k = 0 ∧ r.1 = 0 ∧ r.2.1 = 0 ∧ r.2.2 = 1) := Hid.mk2 (fun r k ho => by
        obtain ⟨h1, h2⟩ := HRUN.out r k ho
        have h3 := fixed_ends HPW.out.fit HPV.out.fit (HPW.out.fix rfl) (HPV.out.fix rfl) h2
        exact ⟨h1, h3.2.1 hfw hvw⟩)
      have d1 : ((fw : Int) != 0) = false := by simp; omega
      have d2 : (nw == 0) = true := by simpa using hvw
      clear hfw hvw
      go_wp2_with (first
        | (go_at_call 9; refine (HCO.out _ (HT.out.below HF.out.bl) ⟨(HG.out.below HF.out.bl).bytes, (HG.out.below HF.out.bl).size.1⟩).mono ?_; rintro e w4 ⟨rfl, hb4⟩; replace HV := Hid.mk2 (HV.out.below hb4 HV.out.lt); replace HW := Hid.mk2 (HW.out.below hb4 HW.out.lt); replace HF := Hid.mk2 (HF.out.below hb4); clear hb4 hi hj v u; have hi := HF.out.it.cell; have hj := HF.out.bn.cell; have v := HV.out.cell; have u := HW.out.cell)
        | (go_at_call 11; refine (pRun_any I x y _ (HG.out.below HF.out.bl)).mono ?_; rintro e w5 ⟨hb5, r, k, ho, rfl⟩; obtain ⟨rfl, hr⟩ := HR0.out r k ho; obtain ⟨rk, rv, rt⟩ := r; simp only at hr; obtain ⟨rfl, rfl, rfl⟩ := hr; rw [show resA (0, 0, 1) = .agg #[.int .i64 0, .int .i64 0, .int .i64 1] from rfl]; replace HV := Hid.mk2 ((HV.out.below hb5 HV.out.lt).alloc (.cells #[.int .i64 0, .int .i64 0, .int .i64 1] 29)); replace HW := Hid.mk2 ((HW.out.below hb5 HW.out.lt).alloc (.cells #[.int .i64 0, .int .i64 0, .int .i64 1] 29)); replace HF := Hid.mk2 ((HF.out.below hb5).al (.cells #[.int .i64 0, .int .i64 0, .int .i64 1] 29)); have HR := Hid.mk2 (Blk.new w5 #[.int .i64 0, .int .i64 0, .int .i64 1] 29); clear hb5 ho hi hj v u; have hi := HF.out.it.cell; have hj := HF.out.bn.cell; have v := HV.out.cell; have u := HW.out.cell; have rr := HR.out.cell))
      all_goals go_ret
      all_goals first | exact ⟨HF.out.bl, rfl⟩ | exact ⟨HF.out.bl, by simp⟩ | (refine ⟨HF.out.bl, ?_⟩; simp)
    case inr =>
      by_cases hfv : fv = 0
      case pos =>
        have HR0 : Hid (∀ r k, OutIs I x y r k → k = 0 ∧ r.1 = 1 ∧ r.2.1 = nv ∧ r.2.2 = 2) := Hid.mk2 (fun r k ho => by
          obtain ⟨h1, h2⟩ := HRUN.out r k ho
          have h3 := fixed_ends HPW.out.fit HPV.out.fit (HPW.out.fix rfl) (HPV.out.fix rfl) h2
          exact ⟨h1, h3.2.2.2 hfw hvw hfv⟩)
        have d1 : ((fw : Int) != 0) = false := by simp; omega
        have d2 : (nw == 0) = false := by rw [hvw]; decide
        have d3 : ((fv : Int) != 0) = false := by simp; omega
        clear hfw hvw hfv
        go_wp2_with (first
          | (go_at_call 9; refine (HCO.out _ (HT.out.below HF.out.bl) ⟨(HG.out.below HF.out.bl).bytes, (HG.out.below HF.out.bl).size.1⟩).mono ?_; rintro e w4 ⟨rfl, hb4⟩; replace HV := Hid.mk2 (HV.out.below hb4 HV.out.lt); replace HW := Hid.mk2 (HW.out.below hb4 HW.out.lt); replace HF := Hid.mk2 (HF.out.below hb4); clear hb4 hi hj v u; have hi := HF.out.it.cell; have hj := HF.out.bn.cell; have v := HV.out.cell; have u := HW.out.cell)
          | (go_at_call 11; refine (pRun_any I x y _ (HG.out.below HF.out.bl)).mono ?_; rintro e w5 ⟨hb5, r, k, ho, rfl⟩; obtain ⟨rfl, hr⟩ := HR0.out r k ho; obtain ⟨rk, rv, rt⟩ := r; simp only at hr; obtain ⟨h1r, h2r, h3r⟩ := hr; rw [h1r, h2r, h3r]; clear h1r h2r h3r; rw [show resA (1, nv, 2) = .agg #[.int .i64 1, .int .i64 nv, .int .i64 2] from rfl]; replace HV := Hid.mk2 ((HV.out.below hb5 HV.out.lt).alloc (.cells #[.int .i64 1, .int .i64 nv, .int .i64 2] 29)); replace HW := Hid.mk2 ((HW.out.below hb5 HW.out.lt).alloc (.cells #[.int .i64 1, .int .i64 nv, .int .i64 2] 29)); replace HF := Hid.mk2 ((HF.out.below hb5).al (.cells #[.int .i64 1, .int .i64 nv, .int .i64 2] 29)); have HR := Hid.mk2 (Blk.new w5 #[.int .i64 1, .int .i64 nv, .int .i64 2] 29); clear hb5 ho hi hj v u; have hi := HF.out.it.cell; have hj := HF.out.bn.cell; have v := HV.out.cell; have u := HW.out.cell; have rr := HR.out.cell))
        all_goals go_ret
        all_goals first | exact ⟨HF.out.bl, rfl⟩ | exact ⟨HF.out.bl, by simp⟩ | (refine ⟨HF.out.bl, ?_⟩; simp)
      case neg =>
        have HR0 : Hid (∀ r k, OutIs I x y r k → k = 0 ∧ r.1 = 2 ∧ r.2.1 = (fv : Int)) := Hid.mk2 (fun r k ho => by
          obtain ⟨h1, h2⟩ := HRUN.out r k ho
          have h3 := fixed_ends HPW.out.fit HPV.out.fit (HPW.out.fix rfl) (HPV.out.fix rfl) h2
          exact ⟨h1, h3.2.2.1 hfw hvw hfv⟩)
        have d1 : ((fw : Int) != 0) = false := by simp; omega
        have d2 : (nw == 0) = false := by rw [hvw]; decide
        have d3 : ((fv : Int) != 0) = true := by simp; omega
        clear hfw hvw hfv
        go_wp2_with (first
          | (go_at_call 9; refine (HCO.out _ (HT.out.below HF.out.bl) ⟨(HG.out.below HF.out.bl).bytes, (HG.out.below HF.out.bl).size.1⟩).mono ?_; rintro e w4 ⟨rfl, hb4⟩; replace HV := Hid.mk2 (HV.out.below hb4 HV.out.lt); replace HW := Hid.mk2 (HW.out.below hb4 HW.out.lt); replace HF := Hid.mk2 (HF.out.below hb4); clear hb4 hi hj v u; have hi := HF.out.it.cell; have hj := HF.out.bn.cell; have v := HV.out.cell; have u := HW.out.cell)
          | (go_at_call 11; refine (pRun_any I x y _ (HG.out.below HF.out.bl)).mono ?_; rintro e w5 ⟨hb5, r, k, ho, rfl⟩; obtain ⟨rfl, hr⟩ := HR0.out r k ho; obtain ⟨rk, rv, rt⟩ := r; simp only at hr; obtain ⟨rfl, rfl⟩ := hr; rw [show resA (2, (fv : Int), rt) = .agg #[.int .i64 2, .int .i64 (fv : Int), .int .i64 (rt : Nat)] from rfl]; replace HV := Hid.mk2 ((HV.out.below hb5 HV.out.lt).alloc (.cells #[.int .i64 2, .int .i64 (fv : Int), .int .i64 (rt : Nat)] 29)); replace HW := Hid.mk2 ((HW.out.below hb5 HW.out.lt).alloc (.cells #[.int .i64 2, .int .i64 (fv : Int), .int .i64 (rt : Nat)] 29)); replace HF := Hid.mk2 ((HF.out.below hb5).al (.cells #[.int .i64 2, .int .i64 (fv : Int), .int .i64 (rt : Nat)] 29)); have HR := Hid.mk2 (Blk.new w5 #[.int .i64 2, .int .i64 (fv : Int), .int .i64 (rt : Nat)] 29); clear hb5 ho hi hj v u; have hi := HF.out.it.cell; have hj := HF.out.bn.cell; have v := HV.out.cell; have u := HW.out.cell; have rr := HR.out.cell))
        all_goals go_ret
        all_goals first | exact ⟨HF.out.bl, rfl⟩ | exact ⟨HF.out.bl, by simp⟩ | (refine ⟨HF.out.bl, ?_⟩; simp)
end Go.Proofs.YtcdnhopeojkmkaaGreatDoor

set_option linter.unusedVariables false
set_option linter.unusedSimpArgs false
namespace Go.Proofs.YtcdnhopeojkmkaaGreatDoor
open Go.RowKit Go.ChangeShapes Go.WideShapes Go.ChangeAt

/-- A row of numbers that reads so: its cells. -/
theorem ints_of_trod {H : Type} {enc : TypeId × Value → H} {P : Program} {W : World} {sp : Nat → Bool} {hd : Bool} {t e : TypeId} {m fuel : Nat} {cs : List Value} {zs : List Int} {q : List MemPlace} (ht : P.underlying t = some (.array m e)) (he : P.underlying e = some (.int .i64)) (hc : P.cellsOf e = 1)
    (hd' : DataW.trod enc P W 0 sp hd fuel t cs = some (.agg (zs.map fun z => .lit (.int .i64 z)), q)) : ∀ (i : Nat) (z : Int), zs[i]? = some z → cs[i]? = some (Value.int .i64 z) := by
  obtain ⟨xs, m1, rfl, hx, hlen, hxm, hel⟩ := DataW.trod_array ht hd'
  intro i z hz
  simp only [Prod.mk.injEq, DataW.agg.injEq] at hx
  have hl : zs.length = xs.length := by have := congrArg List.length hx.1; simpa using this
  have hi : i < zs.length := (List.getElem?_eq_some_iff.1 hz).1
  have h1 := hel i (by omega)
  rw [hc, List.getElem?_eq_getElem (by omega : i < xs.length)] at h1
  obtain ⟨k, e1, e2, _⟩ := DataW.trod_int he h1
  have h2 : (zs.map fun z => (DataW.lit (.int .i64 z) : DataW H))[i]? = (xs.map (·.1))[i]? := by rw [hx.1]
  rw [List.getElem?_map, List.getElem?_map, hz, List.getElem?_eq_getElem (by omega : i < xs.length), Option.map_some, Option.map_some, e2] at h2
  have hk : k = z := by simpa using h2.symm
  subst hk
  have h3 : ((cs.drop (i * 1)).take 1)[0]? = some (.int .i64 k) := by rw [e1]; rfl
  rw [List.getElem?_take, if_pos (by omega), List.getElem?_drop] at h3
  simpa using h3

def tabBytes : List Int := [8, 1, 0, 0, 0, 0, 0, 0, 0, 0, 0, 0, 0, 2, 2, 2, 0, 0]
def tabTakes : List Int := [0, 0, 1, 1, 2, 2, 2, 2, 2, 2, 2, 2, 2, 0, 1, 1, 1, 0]
def tabLays : List Int := [1, 1, 1, 1, 1, 1, 1, 1, 1, 1, 1, 1, 1, 0, 0, 0, 0, 0]
theorem tabBytes_eq : ∀ c, c < 18 → tabBytes[c]? = some ((behindN c : Nat) : Int) := by decide
theorem tabTakes_eq : ∀ c, c < 18 → tabTakes[c]? = some ((takesN c : Nat) : Int) := by decide
theorem tabLays_eq : ∀ c, c < 18 → tabLays[c]? = some ((laysN c : Nat) : Int) := by decide
theorem dBytes : (Rows.laid_slots_program_bytesBehind : DataW Unit) = .agg (tabBytes.map fun z => .lit (.int .i64 z)) := rfl
theorem dTakes : (Rows.laid_slots_program_takes : DataW Unit) = .agg (tabTakes.map fun z => .lit (.int .i64 z)) := rfl
theorem dLays : (Rows.laid_slots_program_lays : DataW Unit) = .agg (tabLays.map fun z => .lit (.int .i64 z)) := rfl
/-- The name of a listed variable. -/
def laidName (i : Nat) : String := ((Rows.fixedRow.laid[i]?).map (·.1)).getD default
theorem gBytes : Tryz.prog.globalNamed (laidName 0) = some 0 := by kernel_rfl
theorem gTakes : Tryz.prog.globalNamed (laidName 1) = some 1 := by kernel_rfl
theorem gLays : Tryz.prog.globalNamed (laidName 2) = some 2 := by kernel_rfl
theorem tyBytes : (Tryz.prog.globals[0]?).map (·.type) = some 174 := by kernel_rfl
theorem tyTakes : (Tryz.prog.globals[1]?).map (·.type) = some 174 := by kernel_rfl
theorem tyLays : (Tryz.prog.globals[2]?).map (·.type) = some 174 := by kernel_rfl
theorem cellsInt : Tryz.prog.cellsOf 3 = 1 := by kernel_rfl
/-- One table of eighteen numbers. -/
theorem table_of {W : World} {nm : String} {g t : Nat} {cs : Array Value} {fuel : Nat} {p : List MemPlace} {zs : List Int} {d : DataW Unit} (k : Nat) (hgk : Tryz.prog.globalNamed nm = some k) (htk : (Tryz.prog.globals[k]?).map (·.type) = some 174) (hd0 : d = .agg (zs.map fun z => .lit (.int .i64 z)))
    (hg : Tryz.prog.globalNamed nm = some g) (ht : (Tryz.prog.globals[g]?).map (·.type) = some t) (hv : W.var? Tryz.prog nm = some cs) (hd : DataW.trod (fun _ => ()) Tryz.prog W 0 (fun _ => true) false fuel t cs.toList = some (d, p)) :
    ∀ (i : Nat) (z : Int), zs[i]? = some z → W.cell? ⟨k, i, none⟩ = some (.int .i64 z) := by
  obtain rfl := Option.some.inj (hgk.symm.trans hg)
  obtain rfl := Option.some.inj (htk.symm.trans ht)
  subst hd0
  intro i z hz
  have h1 := ints_of_trod Tryz.underlying174 Tryz.underlying3 cellsInt hd i z hz
  rw [World.var?_cell hgk hv i]
  simpa using h1
end Go.Proofs.YtcdnhopeojkmkaaGreatDoor
