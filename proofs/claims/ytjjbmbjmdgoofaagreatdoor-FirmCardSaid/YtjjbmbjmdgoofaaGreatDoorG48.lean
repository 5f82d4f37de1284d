/-
  Run, by the program and by the document: the same result and error.
-/
import Derived.Test.YtjjbmbjmdgoofaaGreatDoorG47
import Derived.Test.YtjjbmbjmdgoofaaGreatDoorG22
import Derived.Test.YtjjbmbjmdgoofaaGreatDoorG44
import Derived.Test.YtjjbmbjmdgoofaaGreatDoorG23
import Derived.Deep.DeepCutAuto
import Derived.Deep.RegionWith
set_option linter.unusedVariables false
set_option linter.unusedSimpArgs false
namespace Go.Proofs.YtjjbmbjmdgoofaaGreatDoor
open Go.RowKit
def OutIs (s : ByteArray) (x : Itm) (y : Bn) (r : Nat × Int × Nat) (k : Int) : Prop :=
  (¬ IsImg s ∧ r = (0, 0, 0) ∧ k = 7) ∨ (IsImg s ∧ itmB x = false ∧ r = (0, 0, 0) ∧ k = 8) ∨ (IsImg s ∧ itmB x = true ∧ bnB y = false ∧ r = (0, 0, 0) ∧ k = 9) ∨ (IsImg s ∧ itmB x = true ∧ bnB y = true ∧ r = runM s x y (s.size + 1) 3 [] 0 ∧ k = 0)
structure Boxed (w wx : World) (x : Itm) (y : Bn) : Prop where
  it : Blk wx w.heap.size #[.int .i64 x.size, .int .i64 x.speed, .int .i64 x.need] 28
  bn : Blk wx (w.heap.size + 1) #[.int .i64 y.id, .int .i64 y.zone, .int .i64 y.cap, .int .i64 y.used, .int .i64 y.has] 31
  rs : Blk wx (w.heap.size + 1 + 1) #[.int .i64 0, .int .i64 0, .int .i64 0] 23
  bl : Below w.heap.size w wx
theorem Boxed.below {w wx w' : World} {x : Itm} {y : Bn} (h : Boxed w wx x y) (hb : Below wx.heap.size wx w') : Boxed w w' x y :=
  ⟨h.it.below hb h.it.lt, h.bn.below hb h.bn.lt, h.rs.below hb h.rs.lt, h.bl.trans (hb.mono h.bl.size)⟩
theorem boxed_start (w : World) (x : Itm) (y : Bn) : Boxed w (((w.alloc (.cells #[.int .i64 x.size, .int .i64 x.speed, .int .i64 x.need] 28)).alloc (.cells #[.int .i64 y.id, .int .i64 y.zone, .int .i64 y.cap, .int .i64 y.used, .int .i64 y.has] 31)).alloc (.cells #[.int .i64 0, .int .i64 0, .int .i64 0] 23)) x y := by
  refine ⟨((Blk.new w _ _).alloc _).alloc _, ?_, ?_, (((Below.refl _ _).alloc (Nat.le_refl _) _).alloc (by simp) _).alloc (by simp; omega) _⟩
  · have := (Blk.new (w.alloc (.cells #[.int .i64 x.size, .int .i64 x.speed, .int .i64 x.need] 28)) #[.int .i64 y.id, .int .i64 y.zone, .int .i64 y.cap, .int .i64 y.used, .int .i64 y.has] 31).alloc (.cells #[.int .i64 0, .int .i64 0, .int .i64 0] 23)
    simpa using this
  · have := Blk.new ((w.alloc (.cells #[.int .i64 x.size, .int .i64 x.speed, .int .i64 x.need] 28)).alloc (.cells #[.int .i64 y.id, .int .i64 y.zone, .int .i64 y.cap, .int .i64 y.used, .int .i64 y.has] 31)) #[.int .i64 0, .int .i64 0, .int .i64 0] 23
    simpa using this
theorem img_run {s : ByteArray} (h : IsImg s) : ∃ l G, Chain s 3 l s.size ∧ Lawful l (bt s 2) G ∧ 3 < s.size ∧ s.size ≤ 4000 := by
  obtain ⟨hh, l, hc, G, hl⟩ := h
  exact ⟨l, G, hc, hl, hh.1, hh.2.1⟩
set_option maxHeartbeats 2000000 in
set_option maxRecDepth 100000 in
theorem pRun_any (s : ByteArray) (x : Itm) (y : Bn) (w : World) (hg : GlobP w) :
    Calls Tryz.prog 44 #[.string s, itmA x, bnA y] w fun e w' => Below w.heap.size w w' ∧ ∃ r k, OutIs s x y r k ∧ e = .returned (.tuple #[resA r, .int .i64 k]) := by
  have HG := Hid.mk2 hg
  have HX := Hid.mk2 (boxed_start w x y)
  clear hg
  unfold itmA bnA
  by_cases hi : IsImg s
  case neg =>
    have HI := Hid.mk2 hi
    clear hi
    go_enter Tryz.func44, Tryz.ntmps44
    go_wp2_with (go_at_call 40; refine (IsImage_any s _ (HG.out.below HX.out.bl)).mono ?_; rintro e w1 ⟨hb1, hor⟩; obtain ⟨_, rfl⟩ := hor.resolve_left (fun h => HI.out h.1); replace HX := Hid.mk2 (HX.out.below hb1); have r0 := HX.out.rs.cell 0; have r1 := HX.out.rs.cell 1; have r2 := HX.out.rs.cell 2; have f0 := HX.out.rs.free 0; have f1 := HX.out.rs.free 1; have f2 := HX.out.rs.free 2)
    have hfb := fin_blk HX.out.rs (.int .i64 0) (.int .i64 0) (.int .i64 0)
    have g0 := hfb.cell 0
    have g1 := hfb.cell 1
    have g2 := hfb.cell 2
    refine bodyPost_ret (v := .tuple #[.agg #[.int .i64 0, .int .i64 0, .int .i64 0], .int .i64 7]) (by simp [results, Tryz.results44, go_sem, g0, g1, g2]) rfl ⟨?_, _, _, .inl ⟨HI.out, rfl, rfl⟩, rfl⟩
    exact fin_below HX.out.bl (by omega) _ _ _
  have HI := Hid.mk2 hi
  obtain ⟨l, G, hc, hl, h3, hs4⟩ := img_run hi
  have HC := Hid.mk2 hc
  have HL := Hid.mk2 hl
  have H3 := Hid.mk2 h3
  have HS := Hid.mk2 hs4
  clear hi hc hl h3 hs4
  cases hx : itmB x
  case false =>
    go_enter Tryz.func44, Tryz.ntmps44
    go_wp2_with (first | (go_at_call 40; refine (IsImage_any s _ (HG.out.below HX.out.bl)).mono ?_; rintro e w1 ⟨hb1, hor⟩; obtain ⟨_, rfl⟩ := hor.resolve_right (fun h => h.1 HI.out); replace HX := Hid.mk2 (HX.out.below hb1); have i0 := HX.out.it.cell 0; have i1 := HX.out.it.cell 1; have i2 := HX.out.it.cell 2; have b0 := HX.out.bn.cell 0; have b1 := HX.out.bn.cell 1; have b2 := HX.out.bn.cell 2; have b3 := HX.out.bn.cell 3; have b4 := HX.out.bn.cell 4; have r0 := HX.out.rs.cell 0; have r1 := HX.out.rs.cell 1; have r2 := HX.out.rs.cell 2; have f0 := HX.out.rs.free 0; have f1 := HX.out.rs.free 1; have f2 := HX.out.rs.free 2) | (go_at_call 36; refine (pIsItem_any x _).mono ?_; rintro e w2 ⟨rfl, hb2⟩; rw [hx]; replace HX := Hid.mk2 (HX.out.below hb2); have i0 := HX.out.it.cell 0; have i1 := HX.out.it.cell 1; have i2 := HX.out.it.cell 2; have b0 := HX.out.bn.cell 0; have b1 := HX.out.bn.cell 1; have b2 := HX.out.bn.cell 2; have b3 := HX.out.bn.cell 3; have b4 := HX.out.bn.cell 4; have r0 := HX.out.rs.cell 0; have r1 := HX.out.rs.cell 1; have r2 := HX.out.rs.cell 2; have f0 := HX.out.rs.free 0; have f1 := HX.out.rs.free 1; have f2 := HX.out.rs.free 2))
    have hfb := fin_blk HX.out.rs (.int .i64 0) (.int .i64 0) (.int .i64 0)
    have g0 := hfb.cell 0
    have g1 := hfb.cell 1
    have g2 := hfb.cell 2
    refine bodyPost_ret (v := .tuple #[.agg #[.int .i64 0, .int .i64 0, .int .i64 0], .int .i64 8]) (by simp [results, Tryz.results44, go_sem, g0, g1, g2]) rfl ⟨?_, _, _, .inr (.inl ⟨HI.out, hx, rfl, rfl⟩), rfl⟩
    exact fin_below HX.out.bl (by omega) _ _ _
  cases hy : bnB y
  case false =>
    go_enter Tryz.func44, Tryz.ntmps44
    go_wp2_with (first | (go_at_call 40; refine (IsImage_any s _ (HG.out.below HX.out.bl)).mono ?_; rintro e w1 ⟨hb1, hor⟩; obtain ⟨_, rfl⟩ := hor.resolve_right (fun h => h.1 HI.out); replace HX := Hid.mk2 (HX.out.below hb1); have i0 := HX.out.it.cell 0; have i1 := HX.out.it.cell 1; have i2 := HX.out.it.cell 2; have b0 := HX.out.bn.cell 0; have b1 := HX.out.bn.cell 1; have b2 := HX.out.bn.cell 2; have b3 := HX.out.bn.cell 3; have b4 := HX.out.bn.cell 4; have r0 := HX.out.rs.cell 0; have r1 := HX.out.rs.cell 1; have r2 := HX.out.rs.cell 2; have f0 := HX.out.rs.free 0; have f1 := HX.out.rs.free 1; have f2 := HX.out.rs.free 2) | (go_at_call 36; refine (pIsItem_any x _).mono ?_; rintro e w2 ⟨rfl, hb2⟩; rw [hx]; replace HX := Hid.mk2 (HX.out.below hb2); have i0 := HX.out.it.cell 0; have i1 := HX.out.it.cell 1; have i2 := HX.out.it.cell 2; have b0 := HX.out.bn.cell 0; have b1 := HX.out.bn.cell 1; have b2 := HX.out.bn.cell 2; have b3 := HX.out.bn.cell 3; have b4 := HX.out.bn.cell 4; have r0 := HX.out.rs.cell 0; have r1 := HX.out.rs.cell 1; have r2 := HX.out.rs.cell 2; have f0 := HX.out.rs.free 0; have f1 := HX.out.rs.free 1; have f2 := HX.out.rs.free 2) | (go_at_call 72; refine (pIsBin_any y _).mono ?_; rintro e w3 ⟨rfl, hb3⟩; rw [hy]; replace HX := Hid.mk2 (HX.out.below hb3); have i0 := HX.out.it.cell 0; have i1 := HX.out.it.cell 1; have i2 := HX.out.it.cell 2; have b0 := HX.out.bn.cell 0; have b1 := HX.out.bn.cell 1; have b2 := HX.out.bn.cell 2; have b3 := HX.out.bn.cell 3; have b4 := HX.out.bn.cell 4; have r0 := HX.out.rs.cell 0; have r1 := HX.out.rs.cell 1; have r2 := HX.out.rs.cell 2; have f0 := HX.out.rs.free 0; have f1 := HX.out.rs.free 1; have f2 := HX.out.rs.free 2))
    have hfb := fin_blk HX.out.rs (.int .i64 0) (.int .i64 0) (.int .i64 0)
    have g0 := hfb.cell 0
    have g1 := hfb.cell 1
    have g2 := hfb.cell 2
    refine bodyPost_ret (v := .tuple #[.agg #[.int .i64 0, .int .i64 0, .int .i64 0], .int .i64 9]) (by simp [results, Tryz.results44, go_sem, g0, g1, g2]) rfl ⟨?_, _, _, .inr (.inr (.inl ⟨HI.out, hx, hy, rfl, rfl⟩)), rfl⟩
    exact fin_below HX.out.bl (by omega) _ _ _
  case true =>
    obtain ⟨R, hR⟩ : ∃ R, R = runM s x y (s.size + 1) 3 [] 0 := ⟨_, rfl⟩
    have HR : Hid (runM s x y (s.size + 1) 3 [] 0 = R) := hR.symm
    clear hR
    go_enter Tryz.func44, Tryz.ntmps44
    go_wp2_with (first | (go_at_call 40; refine (IsImage_any s _ (HG.out.below HX.out.bl)).mono ?_; rintro e w1 ⟨hb1, hor⟩; obtain ⟨_, rfl⟩ := hor.resolve_right (fun h => h.1 HI.out); replace HX := Hid.mk2 (HX.out.below hb1); have i0 := HX.out.it.cell 0; have i1 := HX.out.it.cell 1; have i2 := HX.out.it.cell 2; have b0 := HX.out.bn.cell 0; have b1 := HX.out.bn.cell 1; have b2 := HX.out.bn.cell 2; have b3 := HX.out.bn.cell 3; have b4 := HX.out.bn.cell 4; have r0 := HX.out.rs.cell 0; have r1 := HX.out.rs.cell 1; have r2 := HX.out.rs.cell 2; have f0 := HX.out.rs.free 0; have f1 := HX.out.rs.free 1; have f2 := HX.out.rs.free 2) | (go_at_call 36; refine (pIsItem_any x _).mono ?_; rintro e w2 ⟨rfl, hb2⟩; rw [hx]; replace HX := Hid.mk2 (HX.out.below hb2); have i0 := HX.out.it.cell 0; have i1 := HX.out.it.cell 1; have i2 := HX.out.it.cell 2; have b0 := HX.out.bn.cell 0; have b1 := HX.out.bn.cell 1; have b2 := HX.out.bn.cell 2; have b3 := HX.out.bn.cell 3; have b4 := HX.out.bn.cell 4; have r0 := HX.out.rs.cell 0; have r1 := HX.out.rs.cell 1; have r2 := HX.out.rs.cell 2; have f0 := HX.out.rs.free 0; have f1 := HX.out.rs.free 1; have f2 := HX.out.rs.free 2) | (go_at_call 72; refine (pIsBin_any y _).mono ?_; rintro e w3 ⟨rfl, hb3⟩; rw [hy]; replace HX := Hid.mk2 (HX.out.below hb3); have i0 := HX.out.it.cell 0; have i1 := HX.out.it.cell 1; have i2 := HX.out.it.cell 2; have b0 := HX.out.bn.cell 0; have b1 := HX.out.bn.cell 1; have b2 := HX.out.bn.cell 2; have b3 := HX.out.bn.cell 3; have b4 := HX.out.bn.cell 4; have r0 := HX.out.rs.cell 0; have r1 := HX.out.rs.cell 1; have r2 := HX.out.rs.cell 2; have f0 := HX.out.rs.free 0; have f1 := HX.out.rs.free 1; have f2 := HX.out.rs.free 2) | (go_at_call 66; refine (machineRun_any s HS.out l (bt s 2) (bt_lt s 2) G HC.out HL.out H3.out x y ⟨(itmB_iff x).1 hx, (bnB_iff y).1 hy⟩ _ (HG.out.below HX.out.bl).y).mono ?_; rintro e w4 ⟨hb4, rfl⟩; rw [HR.out]; unfold resA; replace HX := Hid.mk2 (HX.out.below hb4); have i0 := HX.out.it.cell 0; have i1 := HX.out.it.cell 1; have i2 := HX.out.it.cell 2; have b0 := HX.out.bn.cell 0; have b1 := HX.out.bn.cell 1; have b2 := HX.out.bn.cell 2; have b3 := HX.out.bn.cell 3; have b4 := HX.out.bn.cell 4; have r0 := HX.out.rs.cell 0; have r1 := HX.out.rs.cell 1; have r2 := HX.out.rs.cell 2; have f0 := HX.out.rs.free 0; have f1 := HX.out.rs.free 1; have f2 := HX.out.rs.free 2))
    have hfb := fin_blk HX.out.rs (.int .i64 R.1) (.int .i64 R.2.1) (.int .i64 R.2.2)
    have g0 := hfb.cell 0
    have g1 := hfb.cell 1
    have g2 := hfb.cell 2
    refine bodyPost_ret (v := .tuple #[.agg #[.int .i64 R.1, .int .i64 R.2.1, .int .i64 R.2.2], .int .i64 0]) (by simp [results, Tryz.results44, go_sem, g0, g1, g2]) rfl ⟨?_, _, _, .inr (.inr (.inr ⟨HI.out, hx, hy, HR.out.symm, rfl⟩)), rfl⟩
    exact fin_below HX.out.bl (by omega) _ _ _
end Go.Proofs.YtjjbmbjmdgoofaaGreatDoor
namespace Go.Proofs.YtjjbmbjmdgoofaaGreatDoor
open Go.RowKit
theorem rej_img {s : ByteArray} (hs : Sits s 0 (imgC 0 [17])) (hz : s.size = 4) : IsImg s := by
  obtain ⟨b0, b1, b2, hc⟩ := hs.img
  have h17 := hc.head
  have hb : behindN 17 = 0 := rfl
  have ok : OpOkI s 3 := ⟨h17.1, by omega, by rw [h17.2, hb]; omega, by omega⟩
  have hop : (mkIns s 3).op = 17 := h17.2
  have hnx : (mkIns s 3).next = s.size := by simp only [mkIns, h17.2, hb]; omega
  refine ⟨⟨by omega, by omega, b0, b1⟩, [mkIns s 3], ⟨ok, rfl, hnx⟩, fun _ => 0, rfl, fun o ho => ?_⟩
  obtain rfl : o = mkIns s 3 := by simpa using ho
  refine ⟨by rw [hop]; simp [takesN], by simp, fun q hq => ?_, .inl rfl⟩
  rcases hq with ⟨_, _, h, _⟩ | ⟨h, _⟩
  · exact absurd hop h
  · omega
end Go.Proofs.YtjjbmbjmdgoofaaGreatDoor
namespace Go.Proofs.YtjjbmbjmdgoofaaGreatDoor
open Go.RowKit
set_option maxHeartbeats 1000000 in
theorem LoadImage_any (s : ByteArray) (sb : Nat) (v : Value) (im : ByteArray) (w : World) (hg : GlobP w) (h : Blk w sb #[v, .string im] 82) :
    Calls Tryz.prog 19 #[.pointer (some ⟨sb, 0, none⟩), .string s] w fun e w' =>
      (IsImg s ∧ e = .returned (.int .i64 0) ∧ Blk w' sb #[v, .string s] 82 ∧ But sb w w') ∨ (¬ IsImg s ∧ e = .returned (.int .i64 7) ∧ Below w.heap.size w w') := by
  have HG := Hid.mk2 hg
  have HS := Hid.mk2 h
  clear hg h
  go_enter Tryz.func19, Tryz.ntmps19
  go_wp2_with (go_at_call 40; refine (IsImage_any s _ HG.out).mono ?_; rintro e w1 ⟨hb1, ⟨hi, rfl⟩ | ⟨hi, rfl⟩⟩; all_goals (replace HS := Hid.mk2 (HS.out.below hb1 HS.out.lt); have c1 := HS.out.cell 1; have f1 := HS.out.free 1))
  · go_ret
    exact .inl ⟨hi, rfl, HS.out.set 1 _, (But.of hb1).trans (But.set sb 1 _ HS.out.lt)⟩
  · go_ret
    exact .inr ⟨hi, rfl, hb1⟩
end Go.Proofs.YtjjbmbjmdgoofaaGreatDoor
namespace Go.Proofs.YtjjbmbjmdgoofaaGreatDoor
open Go.RowKit
theorem sits_bsN (l : List Nat) (h : ∀ b ∈ l, b < 256) : Sits (bsN l) 0 l := by
  intro i b hi
  have hlt : i < l.length := (List.getElem?_eq_some_iff.1 hi).1
  have hb : b < 256 := h b (List.mem_of_getElem? hi)
  have hsz : i < (bsN l).size := by rw [bsN_len]; exact hlt
  refine ⟨by rw [Nat.zero_add]; exact hsz, ?_⟩
  rw [Nat.zero_add, bt_get _ _ hsz]
  have e : (bsN l)[i] = UInt8.ofNat l[i] := by
    show (bsN l).data[i]'(by rw [ByteArray.size] at hsz; exact hsz) = _
    simp [bsN]
  have hl : l[i] = b := (List.getElem?_eq_some_iff.1 hi).2
  rw [e, hl]
  simp [UInt8.toNat_ofNat', Nat.mod_eq_of_lt hb]
set_option maxHeartbeats 1000000 in
theorem simple_any (w : World) :
    Calls Tryz.prog 41 #[] w fun e w' => e = .returned (.string (bsN [83, 76, 0, 17])) ∧ Below w.heap.size w w' := by
  have z0 : (bsN [0]).size = 1 := bsN_len _
  have z1 : (bsN [17]).size = 1 := bsN_len _
  have HE : Hid ((({ data := #[83, 76] } : ByteArray) ++ bsN [0]) ++ bsN [17] = bsN [83, 76, 0, 17]) := by
    have e : ({ data := #[83, 76] } : ByteArray) = bsN [83, 76] := rfl
    rw [Hid, e, bsN_append, bsN_append]; rfl
  go_enter Tryz.func41, Tryz.ntmps41
  go_wp2_with (first
    | (go_at_call_of 42 (Value.int IntKind.i64 0); refine (op_any 0 (by omega) _).mono ?_; rintro e w1 ⟨rfl, hb1⟩)
    | (go_at_call_of 42 (Value.int IntKind.i64 17); refine (op_any 17 (by omega) _).mono ?_; rintro e w2 ⟨rfl, hb2⟩))
  go_ret
  exact ⟨by rw [← HE.out]; rfl, hb1.trans (hb2.mono hb1.size)⟩
end Go.Proofs.YtjjbmbjmdgoofaaGreatDoor
