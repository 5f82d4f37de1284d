/-
  sum: an EXPR that is a number, so deep.
-/
import Derived.Test.YtjjbmbjmdgoofaaGreatDoorB41
import Derived.Test.YtjjbmbjmdgoofaaGreatDoorB43
set_option linter.unusedVariables false
set_option linter.unusedSimpArgs false
namespace Go.Proofs.YtjjbmbjmdgoofaaGreatDoor
open Go.RowKit Go.Deep
def put6 (wx : World) (b : Nat) (a0 a1 a2 a3 a4 a5 : Value) : World :=
  (((((wx.setCell ⟨b, 0, none⟩ a0).setCell ⟨b, 1, none⟩ a1).setCell ⟨b, 2, none⟩ a2).setCell ⟨b, 3, none⟩ a3).setCell ⟨b, 4, none⟩ a4).setCell ⟨b, 5, none⟩ a5
structure SumM (w wx : World) (mb fb : Nat) (x : Itm) (y : Bn) (l0 l1 l2 l3 l4 l5 : Value) (st : Bool) (c : Array Value) : Prop where
  mak : MakAt wx mb fb x y l0 l1 l2 l3 l4 l5 st
  out : Blk wx w.heap.size ag0 66
  pp : Blk wx (w.heap.size + 1) c 66
  bl : But fb w wx
  m : mb < w.heap.size
  f : fb < w.heap.size
section
variable {w wx w' : World} {mb fb : Nat} {x : Itm} {y : Bn} {l0 l1 l2 l3 l4 l5 : Value} {st : Bool} {c : Array Value}
theorem sumM_start (h : MakAt w mb fb x y l0 l1 l2 l3 l4 l5 st) : SumM w ((w.alloc (.cells ag0 66)).alloc (.cells ag0 66)) mb fb x y l0 l1 l2 l3 l4 l5 st ag0 := by
  have d := duo_startP w ag0 ag0
  exact ⟨h.below d.bl, d.box, d.res, But.of d.bl, h.blk.lt, h.fed.lt⟩
theorem SumM.call (h : SumM w wx mb fb x y l0 l1 l2 l3 l4 l5 st c) (hM : MakAt w' mb fb x y l0 l1 l2 l3 l4 l5 st) (hB : But fb wx w') : SumM w w' mb fb x y l0 l1 l2 l3 l4 l5 st c :=
  ⟨hM, h.out.but hB (by have := h.f; omega), h.pp.but hB (by have := h.f; omega), h.bl.trans hB, h.m, h.f⟩
theorem SumM.next (h : SumM w wx mb fb x y l0 l1 l2 l3 l4 l5 st c) (hF : FeedAt w' fb) (hB : But fb wx w') : SumM w w' mb fb x y l0 l1 l2 l3 l4 l5 st c := h.call (h.mak.next hF hB) hB
theorem SumM.below (h : SumM w wx mb fb x y l0 l1 l2 l3 l4 l5 st c) (hb : Below wx.heap.size wx w') : SumM w w' mb fb x y l0 l1 l2 l3 l4 l5 st c := h.call (h.mak.below hb) (But.of hb)
theorem SumM.al (h : SumM w wx mb fb x y l0 l1 l2 l3 l4 l5 st c) (o : Obj) : SumM w (wx.alloc o) mb fb x y l0 l1 l2 l3 l4 l5 st c := h.below (box3 wx o)
theorem SumM.drew (h : SumM w wx mb fb x y l0 l1 l2 l3 l4 l5 st c) : SumM w wx.drew mb fb x y l0 l1 l2 l3 l4 l5 st c := h.below (below_drewN (Below.refl _ _) 1)
theorem SumM.setP (h : SumM w wx mb fb x y l0 l1 l2 l3 l4 l5 st c) (i : Nat) (v : Value) : SumM w (wx.setCell ⟨w.heap.size + 1, i, none⟩ v) mb fb x y l0 l1 l2 l3 l4 l5 st (c.setIfInBounds i v) :=
  ⟨⟨h.mak.blk.other _ _ (by have := h.m; simp only; omega), h.mak.fed.other _ _ _ (by have := h.f; omega), h.mak.ne⟩, h.out.other _ _ (by simp only; omega), h.pp.set i v, h.bl.st _ _ (by omega) v, h.m, h.f⟩
theorem SumM.put {z0 z1 z2 z3 z4 z5 : Value} (h : SumM w wx mb fb x y l0 l1 l2 l3 l4 l5 st #[z0, z1, z2, z3, z4, z5]) (a0 a1 a2 a3 a4 a5 : Value) : SumM w (put6 wx (w.heap.size + 1) a0 a1 a2 a3 a4 a5) mb fb x y l0 l1 l2 l3 l4 l5 st #[a0, a1, a2, a3, a4, a5] :=
  (((((h.setP 0 a0).setP 1 a1).setP 2 a2).setP 3 a3).setP 4 a4).setP 5 a5
theorem SumM.facts (h : SumM w wx mb fb x y l0 l1 l2 l3 l4 l5 st c) : (∀ i, wx.cell? ⟨w.heap.size + 1, i, none⟩ = c[i]?) ∧ (∀ i, wx.frozen? ⟨w.heap.size + 1, i, none⟩ = false) ∧ wx.cell? ⟨mb, 0, none⟩ = some (.pointer (some ⟨fb, 0, none⟩)) := ⟨h.pp.cell, h.pp.free, h.mak.blk.cell 0⟩
theorem SumM.om (h : SumM w wx mb fb x y l0 l1 l2 l3 l4 l5 st c) : OutM w wx mb fb x y l0 l1 l2 l3 l4 l5 st ag0 := ⟨h.mak, h.out, h.bl, h.m, h.f⟩
theorem SumM.seven {a0 a1 a2 a3 a4 a5 : Value} (h : SumM w wx mb fb x y l0 l1 l2 l3 l4 l5 st #[a0, a1, a2, a3, a4, a5]) : wx.cell? ⟨mb, 0, none⟩ = some (.pointer (some ⟨fb, 0, none⟩)) ∧ wx.cell? ⟨w.heap.size + 1, 0, none⟩ = some a0 ∧ wx.cell? ⟨w.heap.size + 1, 1, none⟩ = some a1 ∧ wx.cell? ⟨w.heap.size + 1, 2, none⟩ = some a2 ∧ wx.cell? ⟨w.heap.size + 1, 3, none⟩ = some a3 ∧ wx.cell? ⟨w.heap.size + 1, 4, none⟩ = some a4 ∧ wx.cell? ⟨w.heap.size + 1, 5, none⟩ = some a5 :=
  ⟨h.mak.blk.cell 0, h.pp.cell 0, h.pp.cell 1, h.pp.cell 2, h.pp.cell 3, h.pp.cell 4, h.pp.cell 5⟩
theorem SumM.ppO {b0 b1 b2 b3 b4 b5 : Value} (h : SumM w wx mb fb x y l0 l1 l2 l3 l4 l5 st c) : Blk ((((((wx.setCell ⟨w.heap.size, 0, none⟩ b0).setCell ⟨w.heap.size, 1, none⟩ b1).setCell ⟨w.heap.size, 2, none⟩ b2).setCell ⟨w.heap.size, 3, none⟩ b3).setCell ⟨w.heap.size, 4, none⟩ b4).setCell ⟨w.heap.size, 5, none⟩ b5) (w.heap.size + 1) c 66 :=
  ((((((h.pp.other _ _ (by simp only; omega)).other _ _ (by simp only; omega)).other _ _ (by simp only; omega)).other _ _ (by simp only; omega)).other _ _ (by simp only; omega)).other _ _ (by simp only; omega))
theorem SumM.seven2 {a0 a1 a2 a3 a4 a5 b0 b1 b2 b3 b4 b5 : Value} (h : SumM w wx mb fb x y l0 l1 l2 l3 l4 l5 st #[a0, a1, a2, a3, a4, a5]) : ((((((wx.setCell ⟨w.heap.size, 0, none⟩ b0).setCell ⟨w.heap.size, 1, none⟩ b1).setCell ⟨w.heap.size, 2, none⟩ b2).setCell ⟨w.heap.size, 3, none⟩ b3).setCell ⟨w.heap.size, 4, none⟩ b4).setCell ⟨w.heap.size, 5, none⟩ b5).cell? ⟨mb, 0, none⟩ = some (.pointer (some ⟨fb, 0, none⟩)) ∧ ((((((wx.setCell ⟨w.heap.size, 0, none⟩ b0).setCell ⟨w.heap.size, 1, none⟩ b1).setCell ⟨w.heap.size, 2, none⟩ b2).setCell ⟨w.heap.size, 3, none⟩ b3).setCell ⟨w.heap.size, 4, none⟩ b4).setCell ⟨w.heap.size, 5, none⟩ b5).cell? ⟨w.heap.size + 1, 0, none⟩ = some a0 ∧ ((((((wx.setCell ⟨w.heap.size, 0, none⟩ b0).setCell ⟨w.heap.size, 1, none⟩ b1).setCell ⟨w.heap.size, 2, none⟩ b2).setCell ⟨w.heap.size, 3, none⟩ b3).setCell ⟨w.heap.size, 4, none⟩ b4).setCell ⟨w.heap.size, 5, none⟩ b5).cell? ⟨w.heap.size + 1, 1, none⟩ = some a1 ∧ ((((((wx.setCell ⟨w.heap.size, 0, none⟩ b0).setCell ⟨w.heap.size, 1, none⟩ b1).setCell ⟨w.heap.size, 2, none⟩ b2).setCell ⟨w.heap.size, 3, none⟩ b3).setCell ⟨w.heap.size, 4, none⟩ b4).setCell ⟨w.heap.size, 5, none⟩ b5).cell? ⟨w.heap.size + 1, 2, none⟩ = some a2 ∧ ((((((wx.setCell ⟨w.heap.size, 0, none⟩ b0).setCell ⟨w.heap.size, 1, none⟩ b1).setCell ⟨w.heap.size, 2, none⟩ b2).setCell ⟨w.heap.size, 3, none⟩ b3).setCell ⟨w.heap.size, 4, none⟩ b4).setCell ⟨w.heap.size, 5, none⟩ b5).cell? ⟨w.heap.size + 1, 3, none⟩ = some a3 ∧ ((((((wx.setCell ⟨w.heap.size, 0, none⟩ b0).setCell ⟨w.heap.size, 1, none⟩ b1).setCell ⟨w.heap.size, 2, none⟩ b2).setCell ⟨w.heap.size, 3, none⟩ b3).setCell ⟨w.heap.size, 4, none⟩ b4).setCell ⟨w.heap.size, 5, none⟩ b5).cell? ⟨w.heap.size + 1, 4, none⟩ = some a4 ∧ ((((((wx.setCell ⟨w.heap.size, 0, none⟩ b0).setCell ⟨w.heap.size, 1, none⟩ b1).setCell ⟨w.heap.size, 2, none⟩ b2).setCell ⟨w.heap.size, 3, none⟩ b3).setCell ⟨w.heap.size, 4, none⟩ b4).setCell ⟨w.heap.size, 5, none⟩ b5).cell? ⟨w.heap.size + 1, 5, none⟩ = some a5 :=
  ⟨((((((h.om.setO 0 b0).setO 1 b1).setO 2 b2).setO 3 b3).setO 4 b4).setO 5 b5).mak.blk.cell 0, h.ppO.cell 0, h.ppO.cell 1, h.ppO.cell 2, h.ppO.cell 3, h.ppO.cell 4, h.ppO.cell 5⟩
end
def SumDoes (C : Ctx → Prop) (mb fb : Nat) (x : Itm) (y : Bn) (l0 l1 l2 l3 l4 l5 : Value) (st : Bool) (L D P S : Nat) (n : Nat) : Prop := ∀ w, MakAt w mb fb x y l0 l1 l2 l3 l4 l5 st → Calls Tryz.prog 30 #[.pointer (some ⟨mb, 0, none⟩), .int .i64 n] w fun e w' => (∃ t b k, Pc C t b k 1 L D P S st ∧ e = .returned (pcV t b k)) ∧ MakAt w' mb fb x y l0 l1 l2 l3 l4 l5 st ∧ But fb w w'
set_option maxHeartbeats 4000000 in
set_option maxRecDepth 100000 in
theorem sum_zero {C : Ctx → Prop} (mb fb : Nat) (x : Itm) (y : Bn) (l0 l1 l2 l3 l4 l5 : Value) (st : Bool) (P S : Nat) (hP : P ≤ 6) (hS : S ≤ 7) (hC : ∀ E, C E → E.Ok)
    (hnum : ∀ w, MakAt w mb fb x y l0 l1 l2 l3 l4 l5 st → Calls Tryz.prog 50 #[.pointer (some ⟨mb, 0, none⟩)] w fun e w' => (∃ t k, Pc C t 6 k 1 10 0 P S st ∧ e = .returned (pcV t 6 k)) ∧ MakAt w' mb fb x y l0 l1 l2 l3 l4 l5 st ∧ But fb w w') : SumDoes C mb fb x y l0 l1 l2 l3 l4 l5 st 14 1 (P + 1) (S + 1) 0 := by
  intro w h
  have HC := Hid.mk2 hC
  have HN := Hid.mk2 hnum
  clear hC hnum
  have HS := Hid.mk2 (sumM_start h)
  clear h
  go_enter Tryz.func30, Tryz.ntmps30
  go_upto_if 9 with fail
  generalize (w.alloc (.cells ag0 66)).alloc (.cells ag0 66) = W at HS ⊢
  go_cut [] (fun wx => ∃ t b k, Pc C t b k 1 (10) (0) (P) (S) st ∧ SumM w wx mb fb x y l0 l1 l2 l3 l4 l5 st (pcA t b k))
  case first =>
    go_wp2_with (go_at_call 50; refine (HN.out _ HS.out.mak).mono ?_; rintro e w1 ⟨⟨t, k, hP1, rfl⟩, hM, hB⟩; obtain ⟨v, flt, s, fi⟩ := k; unfold pcV pcA; replace HS := Hid.mk2 (HS.out.call hM hB); have HP := Hid.mk2 hP1; clear hM hB hP1; obtain ⟨p, f, c0⟩ := HS.out.facts)
    go_meet
    case rel => exact ⟨t, 6, ⟨v, flt, s, fi⟩, HP.out, HS.out.put _ _ _ _ _ _⟩
  case rest =>
    obtain ⟨t, b, k, hP, hS⟩ := hcut
    obtain ⟨v, flt, s, fi⟩ := k
    unfold pcA at hS
    have HP := Hid.mk2 hP
    have HS := Hid.mk2 hS
    clear hP hS
    obtain ⟨p, f, c0⟩ := HS.out.facts
    go_upto_if 56 with (go_at_call 29; refine (next_any 5 (by omega) _ _ HS.out.mak.fed).mono ?_; rintro e w1 ⟨⟨r, hr0, hr5, rfl⟩, hF, hB⟩; replace HS := Hid.mk2 (HS.out.next hF hB); clear hF hB c0 p f; obtain ⟨p, f, c0⟩ := HS.out.facts)
    go_cut [] (fun wx => ∃ t b k, Pc C t b k 1 (10 + 1) (0) (P + 1) (S + 1) st ∧ SumM w wx mb fb x y l0 l1 l2 l3 l4 l5 st (pcA t b k))
    case first =>
      by_cases hr : r = 1
      · subst hr
        go_wp2_with (go_at_call 52; refine (turned_neg HC.out HP.out (by omega) (by omega) _).mono ?_; rintro e w2 ⟨⟨t', b', k', hP', rfl⟩, hb2⟩; obtain ⟨v', flt', s', fi'⟩ := k'; unfold pcV pcA; replace HS := Hid.mk2 (HS.out.below hb2); have HP' := Hid.mk2 hP'; clear hb2 hP' c0 p f; obtain ⟨p, f, c0⟩ := HS.out.facts)
        go_meet
        case rel => exact ⟨t', b', ⟨v', flt', s', fi'⟩, HP'.out, HS.out.put _ _ _ _ _ _⟩
      · have hr' : (r == 1) = false := by simpa using hr
        go_wp2
        go_meet
        case rel => exact ⟨t, b, ⟨v, flt, s, fi⟩, HP.out.mono (by omega) (Nat.le_refl _) (by omega) (by omega), HS.out⟩
    case rest =>
      clear HS HP c0 p f
      obtain ⟨t', b', k', hP, hS⟩ := hcut
      obtain ⟨v', flt', s', fi'⟩ := k'
      unfold pcA at hS
      have HP := Hid.mk2 hP
      have HS := Hid.mk2 hS
      clear hP hS
      obtain ⟨p, f, c0⟩ := HS.out.facts
      go_upto_region 20 with fail
      go_region_held3 (fun w' => w'.cell? ⟨mb, 0, none⟩ = some (.pointer (some ⟨fb, 0, none⟩)) ∧ w'.cell? ⟨w.heap.size + 1, 0, none⟩ = some (.string t') ∧ w'.cell? ⟨w.heap.size + 1, 1, none⟩ = some (.int .i64 b') ∧ w'.cell? ⟨w.heap.size + 1, 2, none⟩ = some (.int .i64 v') ∧ w'.cell? ⟨w.heap.size + 1, 3, none⟩ = some (.int .i64 flt') ∧ w'.cell? ⟨w.heap.size + 1, 4, none⟩ = some (.int .i64 s') ∧ w'.cell? ⟨w.heap.size + 1, 5, none⟩ = some (.bool fi')) (first | with_reducible exact HS.out.drew.seven | with_reducible exact HS.out.seven | with_reducible exact HS.out.seven2) (first | (go_at_call 53; refine (loose_made HC.out HP.out (by omega) fb _ HS.out.drew.mak.fed).mono ?_; rintro e w3 ⟨⟨t3, b3, k3, hP3, rfl⟩, hF, hB⟩; obtain ⟨v3, flt3, s3, fi3⟩ := k3; unfold pcV pcA; replace HS := Hid.mk2 (HS.out.drew.next hF hB); have HP3 := Hid.mk2 hP3; clear hF hB hP3 c0 p f; have oo := HS.out.out.cell; have oq := HS.out.out.free))
      all_goals go_wp2_with fail
      all_goals
        obtain ⟨hfb, hmk, hbl⟩ := HS.out.om.fin (.string t3) (.int .i64 b3) (.int .i64 v3) (.int .i64 flt3) (.int .i64 s3) (.bool fi3)
        have gg := hfb.cell
        unfold finM at gg hbl hmk
        exact bodyPost_ret (v := .agg #[.string t3, .int .i64 b3, .int .i64 v3, .int .i64 flt3, .int .i64 s3, .bool fi3]) (by simp [results, Tryz.results30, go_sem, gg]) rfl ⟨⟨t3, b3, ⟨v3, flt3, s3, fi3⟩, HP3.out.mono (by omega) (by omega) (by omega) (by omega), rfl⟩, hmk, hbl⟩
set_option maxHeartbeats 8000000 in
set_option maxRecDepth 100000 in
theorem sum_succ {C : Ctx → Prop} (mb fb : Nat) (x : Itm) (y : Bn) (l0 l1 l2 l3 l4 l5 : Value) (st : Bool) (L D P S n : Nat) (hL : L ≤ 100) (hS : S ≤ 100) (hn : n ≤ 5) (hC : ∀ E, C E → E.Ok) (ih : SumDoes C mb fb x y l0 l1 l2 l3 l4 l5 st L D P S n) : SumDoes C mb fb x y l0 l1 l2 l3 l4 l5 st (L + L + 9) (D + 2) (P + P + 2) (S + S + 3) (n + 1) := by
  intro w h
  have HC := Hid.mk2 hC
  have HIH : Hid (∀ w, MakAt w mb fb x y l0 l1 l2 l3 l4 l5 st → Calls Tryz.prog 30 #[.pointer (some ⟨mb, 0, none⟩), .int .i64 n] w fun e w' => (∃ t b k, Pc C t b k 1 L D P S st ∧ e = .returned (pcV t b k)) ∧ MakAt w' mb fb x y l0 l1 l2 l3 l4 l5 st ∧ But fb w w') := ih
  clear hC ih
  have hnn : ((n + 1 : Nat) : Int) = (n : Int) + 1 := by simp
  have hne0 : (((n : Int) + 1) == 0) = false := by simp; omega
  have hsub : (n : Int) + 1 - 1 = (n : Int) := by omega
  have t1 : Hid True := trivial
  have t2 : Hid True := trivial
  rw [hnn]
  clear hnn
  have HS := Hid.mk2 (sumM_start h)
  clear h
  go_enter Tryz.func30, Tryz.ntmps30
  go_upto_if 9 with fail
  generalize (w.alloc (.cells ag0 66)).alloc (.cells ag0 66) = W at HS ⊢
  obtain ⟨p, f, c0⟩ := HS.out.facts
  go_cut [] (fun wx => ∃ t b k, Pc C t b k 1 (L + L + 5) (D + 1) (P + P + 1) (S + S + 2) st ∧ SumM w wx mb fb x y l0 l1 l2 l3 l4 l5 st (pcA t b k))
  case first =>
    go_wp2_with (first
      | (go_at_call 30; have u1 := t1; clear t1; refine (HIH.out _ HS.out.mak).mono ?_; rintro e w1 ⟨⟨ta, ba, ka, hPa, rfl⟩, hM, hB⟩; obtain ⟨va, fa, sa, ia⟩ := ka; unfold pcV pcA; replace HS := Hid.mk2 ((HS.out.call hM hB).al (.cells (ag ta ba va fa sa ia) 66)); have HA := Hid.mk2 (Blk.new w1 (ag ta ba va fa sa ia) 66); have HPA := Hid.mk2 hPa; have hlt1 : fb < w1.heap.size := hM.fed.lt; clear hM hB hPa c0 p f; obtain ⟨p, f, c0⟩ := HS.out.facts; have a := HA.out.cell)
      | (go_at_call 30; have u2 := t2; clear t2; refine (HIH.out _ HS.out.mak).mono ?_; rintro e w2 ⟨⟨tb, bb, kb, hPb, rfl⟩, hM, hB⟩; obtain ⟨vb, fb', sb, ib⟩ := kb; unfold pcV pcA; replace HS := Hid.mk2 ((HS.out.call hM hB).al (.cells (ag tb bb vb fb' sb ib) 66)); replace HA := Hid.mk2 ((HA.out.but hB (by omega)).alloc (.cells (ag tb bb vb fb' sb ib) 66)); have HB := Hid.mk2 (Blk.new w2 (ag tb bb vb fb' sb ib) 66); have HPB := Hid.mk2 hPb; have hlt2 : fb < w2.heap.size := hM.fed.lt; clear hM hB hPb c0 p f a; obtain ⟨p, f, c0⟩ := HS.out.facts; have a := HA.out.cell; have d := HB.out.cell)
      | (go_at_call 29; refine (next_any 6 (by omega) _ _ HS.out.mak.fed).mono ?_; rintro e w4 ⟨⟨r, hr0, hr6, rfl⟩, hF, hB⟩; replace HS := Hid.mk2 (HS.out.next hF hB); replace HA := Hid.mk2 (HA.out.but hB (by omega)); replace HB := Hid.mk2 (HB.out.but hB (by omega)); clear hF hB c0 p f a d; obtain ⟨p, f, c0⟩ := HS.out.facts; have a := HA.out.cell; have d := HB.out.cell; obtain rfl | rfl | rfl | rfl | rfl | rfl : r = 0 ∨ r = 1 ∨ r = 2 ∨ r = 3 ∨ r = 4 ∨ r = 5 := by omega)
      | (go_at_call_of 51 (Value.string ⟨#[43]⟩); refine (joined_plus HC.out HPA.out HPB.out (by omega) (by omega) _).mono ?_; rintro e w5 ⟨⟨tc, bc, kc, hPc, rfl⟩, hb5⟩; obtain ⟨vc, fc, sc, ic⟩ := kc; unfold pcV pcA; replace HS := Hid.mk2 (HS.out.below hb5); have HPC := Hid.mk2 hPc; clear hb5 hPc c0 p f; obtain ⟨p, f, c0⟩ := HS.out.facts)
      | (go_at_call_of 51 (Value.string ⟨#[45]⟩); refine (joined_less1 HC.out HPA.out HPB.out (by omega) (by omega) _).mono ?_; rintro e w5 ⟨⟨tc, bc, kc, hPc, rfl⟩, hb5⟩; obtain ⟨vc, fc, sc, ic⟩ := kc; unfold pcV pcA; replace HS := Hid.mk2 (HS.out.below hb5); have HPC := Hid.mk2 hPc; clear hb5 hPc c0 p f; obtain ⟨p, f, c0⟩ := HS.out.facts)
      | (go_at_call_of 51 (Value.string ⟨#[42]⟩); refine (joined_times HC.out HPA.out HPB.out (by omega) (by omega) _).mono ?_; rintro e w5 ⟨⟨tc, bc, kc, hPc, rfl⟩, hb5⟩; obtain ⟨vc, fc, sc, ic⟩ := kc; unfold pcV pcA; replace HS := Hid.mk2 (HS.out.below hb5); have HPC := Hid.mk2 hPc; clear hb5 hPc c0 p f; obtain ⟨p, f, c0⟩ := HS.out.facts)
      | (go_at_call_of 51 (Value.string ⟨#[47]⟩); refine (joined_quot HC.out HPA.out HPB.out (by omega) (by omega) _).mono ?_; rintro e w5 ⟨⟨tc, bc, kc, hPc, rfl⟩, hb5⟩; obtain ⟨vc, fc, sc, ic⟩ := kc; unfold pcV pcA; replace HS := Hid.mk2 (HS.out.below hb5); have HPC := Hid.mk2 hPc; clear hb5 hPc c0 p f; obtain ⟨p, f, c0⟩ := HS.out.facts)
      | (go_at_call_of 51 (Value.string ⟨#[37]⟩); refine (joined_rest HC.out HPA.out HPB.out (by omega) (by omega) _).mono ?_; rintro e w5 ⟨⟨tc, bc, kc, hPc, rfl⟩, hb5⟩; obtain ⟨vc, fc, sc, ic⟩ := kc; unfold pcV pcA; replace HS := Hid.mk2 (HS.out.below hb5); have HPC := Hid.mk2 hPc; clear hb5 hPc c0 p f; obtain ⟨p, f, c0⟩ := HS.out.facts))
    all_goals go_meet
    all_goals first
      | exact ⟨tc, bc, ⟨vc, fc, sc, ic⟩, HPC.out, HS.out.put _ _ _ _ _ _⟩
      | exact ⟨ta, ba, ⟨va, fa, sa, ia⟩, HPA.out.mono (by omega) (by omega) (by omega) (by omega), HS.out.put _ _ _ _ _ _⟩
  case rest =>
    obtain ⟨t, b, k, hP, hS⟩ := hcut
    obtain ⟨v, flt, s, fi⟩ := k
    unfold pcA at hS
    have HP := Hid.mk2 hP
    have HS := Hid.mk2 hS
    clear hP hS
    obtain ⟨p, f, c0⟩ := HS.out.facts
    go_upto_if 56 with (go_at_call 29; refine (next_any 5 (by omega) _ _ HS.out.mak.fed).mono ?_; rintro e w1 ⟨⟨r, hr0, hr5, rfl⟩, hF, hB⟩; replace HS := Hid.mk2 (HS.out.next hF hB); clear hF hB c0 p f; obtain ⟨p, f, c0⟩ := HS.out.facts)
    go_cut [] (fun wx => ∃ t b k, Pc C t b k 1 (L + L + 5 + 1) (D + 1) (P + P + 1 + 1) (S + S + 2 + 1) st ∧ SumM w wx mb fb x y l0 l1 l2 l3 l4 l5 st (pcA t b k))
    case first =>
      by_cases hr : r = 1
      · subst hr
        go_wp2_with (go_at_call 52; refine (turned_neg HC.out HP.out (by omega) (by omega) _).mono ?_; rintro e w2 ⟨⟨t', b', k', hP', rfl⟩, hb2⟩; obtain ⟨v', flt', s', fi'⟩ := k'; unfold pcV pcA; replace HS := Hid.mk2 (HS.out.below hb2); have HP' := Hid.mk2 hP'; clear hb2 hP' c0 p f; obtain ⟨p, f, c0⟩ := HS.out.facts)
        go_meet
        case rel => exact ⟨t', b', ⟨v', flt', s', fi'⟩, HP'.out, HS.out.put _ _ _ _ _ _⟩
      · have hr' : (r == 1) = false := by simpa using hr
        go_wp2
        go_meet
        case rel => exact ⟨t, b, ⟨v, flt, s, fi⟩, HP.out.mono (by omega) (Nat.le_refl _) (by omega) (by omega), HS.out⟩
    case rest =>
      clear HS HP c0 p f
      obtain ⟨t', b', k', hP, hS⟩ := hcut
      obtain ⟨v', flt', s', fi'⟩ := k'
      unfold pcA at hS
      have HP := Hid.mk2 hP
      have HS := Hid.mk2 hS
      clear hP hS
      obtain ⟨p, f, c0⟩ := HS.out.facts
      go_upto_region 20 with fail
      go_region_held3 (fun w' => w'.cell? ⟨mb, 0, none⟩ = some (.pointer (some ⟨fb, 0, none⟩)) ∧ w'.cell? ⟨w.heap.size + 1, 0, none⟩ = some (.string t') ∧ w'.cell? ⟨w.heap.size + 1, 1, none⟩ = some (.int .i64 b') ∧ w'.cell? ⟨w.heap.size + 1, 2, none⟩ = some (.int .i64 v') ∧ w'.cell? ⟨w.heap.size + 1, 3, none⟩ = some (.int .i64 flt') ∧ w'.cell? ⟨w.heap.size + 1, 4, none⟩ = some (.int .i64 s') ∧ w'.cell? ⟨w.heap.size + 1, 5, none⟩ = some (.bool fi')) (first | with_reducible exact HS.out.drew.seven | with_reducible exact HS.out.seven | with_reducible exact HS.out.seven2) (first | (go_at_call 53; refine (loose_made HC.out HP.out (by omega) fb _ HS.out.drew.mak.fed).mono ?_; rintro e w3 ⟨⟨t3, b3, k3, hP3, rfl⟩, hF, hB⟩; obtain ⟨v3, flt3, s3, fi3⟩ := k3; unfold pcV pcA; replace HS := Hid.mk2 (HS.out.drew.next hF hB); have HP3 := Hid.mk2 hP3; clear hF hB hP3 c0 p f; have oo := HS.out.out.cell; have oq := HS.out.out.free))
      all_goals go_wp2_with fail
      all_goals
        obtain ⟨hfb, hmk, hbl⟩ := HS.out.om.fin (.string t3) (.int .i64 b3) (.int .i64 v3) (.int .i64 flt3) (.int .i64 s3) (.bool fi3)
        have gg := hfb.cell
        unfold finM at gg hbl hmk
        exact bodyPost_ret (v := .agg #[.string t3, .int .i64 b3, .int .i64 v3, .int .i64 flt3, .int .i64 s3, .bool fi3]) (by simp [results, Tryz.results30, go_sem, gg]) rfl ⟨⟨t3, b3, ⟨v3, flt3, s3, fi3⟩, HP3.out.mono (by omega) (by omega) (by omega) (by omega), rfl⟩, hmk, hbl⟩
end Go.Proofs.YtjjbmbjmdgoofaaGreatDoor
