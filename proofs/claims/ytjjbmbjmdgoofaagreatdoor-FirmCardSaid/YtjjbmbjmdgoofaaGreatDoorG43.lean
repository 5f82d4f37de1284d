/-
  The program's machine runs an image: as its operations say.
-/
import Derived.Test.YtjjbmbjmdgoofaaGreatDoorG42
import Derived.Deep.LoopGhost
import Derived.Test.YtjjbmbjmdgoofaaGreatDoorG37
import Derived.Deep.DeepCutAuto
set_option linter.unusedVariables false
set_option linter.unusedSimpArgs false
namespace Go.Proofs.YtjjbmbjmdgoofaaGreatDoor
open Go.RowKit
def resA (r : Nat × Int × Nat) : Value := .agg #[.int .i64 r.1, .int .i64 r.2.1, .int .i64 r.2.2]
def MRel (s : ByteArray) (l : List Ins) (most : Nat) (G : Nat → Int) (x : Itm) (y : Bn) (w : World) (mb : Nat) (R : Nat × Int × Nat) (k : Nat) (wx : World) : Prop :=
  Below mb w wx ∧ ((∃ sv st p, MSt wx mb x y sv st p true R.1 R.2.1 R.2.2) ∨
    (∃ (sv : Value) (st : List Int) (p n f : Nat), MSt wx mb x y sv st p false 0 0 n ∧ AtStep s l most G p st ∧ n ≤ p ∧ R = runM s x y f p st n ∧ s.size < f + p ∧ k = s.size - p))
set_option maxHeartbeats 2000000 in
set_option maxRecDepth 100000 in
theorem machineRun_any (s : ByteArray) (hs : s.size ≤ 4000) (l : List Ins) (most : Nat) (hmost : most < 256) (G : Nat → Int) (hc : Chain s 3 l s.size) (hl : Lawful l most G) (h3 : 3 < s.size) (x : Itm) (y : Bn) (hxy : x.Ok ∧ y.Ok) (w : World) (hg : GlobY w) :
    Calls Tryz.prog 66 #[.string s, itmA x, bnA y] w fun e w' => Below w.heap.size w w' ∧ e = .returned (resA (runM s x y (s.size + 1) 3 [] 0)) := by
  have HG : Hid (GlobY w) := hg
  have HXY := Hid.mk2 hxy
  have HA0 := Hid.mk2 (AtStep.start hc hl h3)
  obtain ⟨R, hR⟩ : ∃ R, R = runM s x y (s.size + 1) 3 [] 0 := ⟨_, rfl⟩
  rw [← hR]
  have HR := Hid.mk2 hR
  clear hg hxy hR hc hl
  unfold itmA bnA
  go_enter Tryz.func66, Tryz.ntmps66
  go_wp2
  obtain ⟨W0, hW0⟩ : ∃ W0, W0 = (((w.alloc (.cells #[.int .i64 x.size, .int .i64 x.speed, .int .i64 x.need] 28)).alloc (.cells #[.int .i64 y.id, .int .i64 y.zone, .int .i64 y.cap, .int .i64 y.used, .int .i64 y.has] 31)).alloc (.cells #[.int .i64 0, .int .i64 0, .int .i64 0] 23)).alloc (.cells (mCells x y (.slice none 0 0) 3 false 0 0 0) 169) := ⟨_, rfl⟩
  have hM0 : MSt W0 (w.heap.size + 3) x y (.slice none 0 0) [] 3 false 0 0 0 := by
    refine ⟨?_, World.ownsRow_nil _ _ _ _⟩
    have := Blk.new (((w.alloc (.cells #[.int .i64 x.size, .int .i64 x.speed, .int .i64 x.need] 28)).alloc (.cells #[.int .i64 y.id, .int .i64 y.zone, .int .i64 y.cap, .int .i64 y.used, .int .i64 y.has] 31)).alloc (.cells #[.int .i64 0, .int .i64 0, .int .i64 0] 23)) (mCells x y (.slice none 0 0) 3 false 0 0 0) 169
    rw [← hW0] at this
    simpa using this
  have hB0 : Below w.heap.size w W0 := by
    rw [hW0]
    exact ((((Below.refl _ _).alloc (Nat.le_refl _) _).alloc (by simp) _).alloc (by simp; omega) _).alloc (by simp; omega) _
  have hR0 : Blk W0 (w.heap.size + 2) #[.int .i64 0, .int .i64 0, .int .i64 0] 23 := by
    have := (Blk.new ((w.alloc (.cells #[.int .i64 x.size, .int .i64 x.speed, .int .i64 x.need] 28)).alloc (.cells #[.int .i64 y.id, .int .i64 y.zone, .int .i64 y.cap, .int .i64 y.used, .int .i64 y.has] 31)) #[.int .i64 0, .int .i64 0, .int .i64 0] 23).alloc (.cells (mCells x y (.slice none 0 0) 3 false 0 0 0) 169)
    rw [← hW0] at this
    simpa using this
  have HW0 := Hid.mk2 hW0
  have HM0 := Hid.mk2 hM0
  have HB0 := Hid.mk2 hB0
  have HR0 := Hid.mk2 hR0
  have hsz0 : w.heap.size + 3 < W0.heap.size := hM0.lt
  clear hW0 hM0 hB0 hR0
  go_loopg [9] (s.size - 3) (fun k _ wx => MRel s l most G x y W0 (w.heap.size + 3) R k wx)
  case atStart => exact HW0.out ▸ ⟨Below.refl _ _, .inr ⟨_, [], 3, 0, s.size + 1, HM0.out, HA0.out, by omega, HR.out, by omega, rfl⟩⟩
  case round =>
    obtain ⟨hbl, hor⟩ := hrel
    rcases hor with ⟨sv, st, p, hm⟩ | ⟨sv, st, p, n, f, hm, hat, hnp, hrun, hfp, hk⟩
    · have c10 := hm.c10
      have c11 := hm.c11
      have c12 := hm.c12
      have c13 := hm.c13
      have r0 : wr.cell? ⟨w.heap.size + 2, 0, none⟩ = some (.int .i64 0) := (hbl.cell (p := ⟨w.heap.size + 2, 0, none⟩) (by simp)).trans (HR0.out.cell 0)
      have r1 : wr.cell? ⟨w.heap.size + 2, 1, none⟩ = some (.int .i64 0) := (hbl.cell (p := ⟨w.heap.size + 2, 1, none⟩) (by simp)).trans (HR0.out.cell 1)
      have r2 : wr.cell? ⟨w.heap.size + 2, 2, none⟩ = some (.int .i64 0) := (hbl.cell (p := ⟨w.heap.size + 2, 2, none⟩) (by simp)).trans (HR0.out.cell 2)
      have f0 : wr.frozen? ⟨w.heap.size + 2, 0, none⟩ = false := (hbl.frozen (p := ⟨w.heap.size + 2, 0, none⟩) (by simp)).trans (HR0.out.free 0)
      have f1 : wr.frozen? ⟨w.heap.size + 2, 1, none⟩ = false := (hbl.frozen (p := ⟨w.heap.size + 2, 1, none⟩) (by simp)).trans (HR0.out.free 1)
      have f2 : wr.frozen? ⟨w.heap.size + 2, 2, none⟩ = false := (hbl.frozen (p := ⟨w.heap.size + 2, 2, none⟩) (by simp)).trans (HR0.out.free 2)
      clear hm
      go_wp2
      refine bodyPost_ret (v := .agg #[.int .i64 R.1, .int .i64 R.2.1, .int .i64 R.2.2]) (by simp [results, Tryz.results66, go_sem, r0, r1, r2]) rfl ⟨?_, rfl⟩
      exact HB0.out.trans ((((hbl.mono (by omega)).setCell (p := ⟨w.heap.size + 2, 0, none⟩) (by simp) _).setCell (p := ⟨w.heap.size + 2, 1, none⟩) (by simp) _).setCell (p := ⟨w.heap.size + 2, 2, none⟩) (by simp) _)
    · have c9 := hm.c9
      have c10 := hm.c10
      have HM := Hid.mk2 hm
      have HOK := Hid.mk2 hat.ok
      have HAT := Hid.mk2 hat
      have HRun := Hid.mk2 hrun
      obtain ⟨c, hc⟩ : ∃ c, c = bt s p := ⟨_, rfl⟩
      obtain ⟨a, ha⟩ : ∃ a, a = (mkIns s p).arg := ⟨_, rfl⟩
      obtain ⟨nx, hnx⟩ : ∃ nx, nx = (mkIns s p).next := ⟨_, rfl⟩
      have HMk : Hid (mkIns s p = ⟨p, c, a, nx⟩) := (by rw [hc, ha, hnx]; rfl : mkIns s p = ⟨p, c, a, nx⟩)
      have HOV : Hid (opV (mkIns s p) = .agg #[.int .i64 c, .int .i64 a, .int .i64 nx]) := (by rw [hc, ha, hnx]; rfl : _ = _)
      have h17 : c ≤ 17 := by rw [hc]; exact hat.ok.2.1
      have hfit : nx ≤ s.size := by rw [hnx]; exact hat.ok.2.2.1
      have hps : p < s.size := hat.ok.1
      have hja : c = 13 ∨ c = 14 ∨ c = 15 → 0 ≤ a ∧ a ≤ 65535 := by
        intro h
        have h1 := jump_arg s p (by rw [hc] at h; exact h)
        have := lowU_two s (p + 1)
        omega
      have HT : Hid (takesN c ≤ st.length) := (by rw [hc]; exact hat.tall : takesN c ≤ st.length)
      have hstl : st.length ≤ 3000 := by have := hat.most_le; omega
      have HN := Hid.mk2 hat.nums
      have HAI : Hid (In64 a) := (by rw [ha]; exact in_wrap _ : In64 a)
      have hblw : Below w.heap.size w wr := HB0.out.trans (hbl.mono (by omega))
      have hmlt : w.heap.size + 3 < wr.heap.size := hm.lt
      have HJA := Hid.mk2 hja
      clear hm hat hrun hc ha hnx hja
      have hja := HJA.out
      obtain ⟨f', rfl⟩ : ∃ f', f = f' + 1 := ⟨f - 1, by omega⟩
      rcases hst : stepM x y (mkIns s p) st with ⟨kk, vv⟩ | ⟨p', st'⟩
      · have HST := Hid.mk2 hst
        have HE : Hid (R = (kk, vv, n + 1)) := (by rw [HRun.out]; exact runM_end hst : R = (kk, vv, n + 1))
        clear hst
        go_wp2_with (first | (go_at_call 97; refine (At_any s hs p (by omega) _ (HG.out.below hblw)).mono ?_; rintro e w1 ⟨hb1, hor⟩; obtain ⟨_, rfl⟩ := hor.resolve_right (fun h => h.1 HOK.out); rw [HOV.out]; have HM1 := Hid.mk2 ((HM.out.below hb1).below (box3 w1 (.cells #[.int .i64 c, .int .i64 a, .int .i64 nx] 171)))) | (go_at_call 98; refine (do_any p c a nx h17 ⟨by omega, by omega⟩ (by omega) hja HT.out hstl HN.out HAI.out HXY.out HM1.out).mono ?_; rintro e w2 ⟨rfl, hb2, hres⟩; rw [← HMk.out, HST.out] at hres))
        go_roundg 0
        case measure => omega
        case rel => exact ⟨(hbl.trans ((hb1.mono (by omega)).trans ((Below.refl _ w1).alloc (by have := hb1.size; omega) _))).trans hb2, .inl (by rw [HE.out]; exact hres)⟩
      · have HST := Hid.mk2 hst
        have HGo := Hid.mk2 (HAT.out.go HXY.out.1 HXY.out.2 hst)
        have HE : Hid (R = runM s x y f' p' st' (n + 1)) := (by rw [HRun.out]; exact runM_go hst : R = runM s x y f' p' st' (n + 1))
        clear hst
        go_wp2_with (first | (go_at_call 97; refine (At_any s hs p (by omega) _ (HG.out.below hblw)).mono ?_; rintro e w1 ⟨hb1, hor⟩; obtain ⟨_, rfl⟩ := hor.resolve_right (fun h => h.1 HOK.out); rw [HOV.out]; have HM1 := Hid.mk2 ((HM.out.below hb1).below (box3 w1 (.cells #[.int .i64 c, .int .i64 a, .int .i64 nx] 171)))) | (go_at_call 98; refine (do_any p c a nx h17 ⟨by omega, by omega⟩ (by omega) hja HT.out hstl HN.out HAI.out HXY.out HM1.out).mono ?_; rintro e w2 ⟨rfl, hb2, hres⟩; rw [← HMk.out, HST.out] at hres))
        go_roundg (s.size - p')
        case measure => have := HGo.out.2; omega
        case rel =>
          obtain ⟨sv', hm'⟩ := hres
          have hlt := HGo.out.2
          exact ⟨(hbl.trans ((hb1.mono (by omega)).trans ((Below.refl _ w1).alloc (by have := hb1.size; omega) _))).trans hb2, .inr ⟨sv', st', p', n + 1, f', by push_cast; exact hm', HGo.out.1, by omega, HE.out, by omega, rfl⟩⟩
end Go.Proofs.YtjjbmbjmdgoofaaGreatDoor
namespace Go.Proofs.YtjjbmbjmdgoofaaGreatDoor
open Go.RowKit Go.Deep
def bestL (sc : Bn → Int) (bs : List Bn) : List Plc := bs.foldl (fun l b => withL l ⟨b.id, sc b⟩) []
theorem bestL_length (sc : Bn → Int) (bs : List Bn) : (bestL sc bs).length = bs.length := by
  have h : ∀ (bs : List Bn) (l : List Plc), (bs.foldl (fun l b => withL l ⟨b.id, sc b⟩) l).length = l.length + bs.length := by
    intro bs
    induction bs with
    | nil => intro l; rfl
    | cons b r ih => intro l; rw [List.foldl_cons, ih, withL_length, List.length_cons]; omega
  rw [bestL, h]
  simp
theorem bestL_take (sc : Bn → Int) (bs : List Bn) (i : Nat) (hi : i < bs.length) : bestL sc (bs.take (i + 1)) = withL (bestL sc (bs.take i)) ⟨bs[i].id, sc bs[i]⟩ := by
  unfold bestL
  rw [List.take_succ_eq_append_getElem hi, List.foldl_append]
  rfl
def ScoresAt (s : ByteArray) (x : Itm) (sc : Bn → Int) (y : Bn) : Prop := ∀ wx, GlobY wx → Calls Tryz.prog 66 #[.string s, itmA x, bnA y] wx fun e w' => Below wx.heap.size wx w' ∧ ∃ n : Nat, e = .returned (.agg #[.int .i64 1, .int .i64 (sc y), .int .i64 n])
structure BSt (w wr : World) (x : Itm) (bv v : Value) (bs : List Bn) (acc : List Plc) : Prop where
  it : Blk wr w.heap.size #[.int .i64 x.size, .int .i64 x.speed, .int .i64 x.need] 28
  rk : Blk wr (w.heap.size + 1) #[.int .i64 0, .int .i64 0, .int .i64 0, .slice none 0 0] 52
  own : wr.ownsRow (w.heap.size + 2) 88 2 v acc.length (cellsQ acc)
  rd : Reads wr bv bs.length (cellsB bs)
  gp : GlobY wr
  bl : Below w.heap.size w wr
theorem BSt.below {w wr w' : World} {x : Itm} {bv v : Value} {bs : List Bn} {acc : List Plc} (h : BSt w wr x bv v bs acc) (hb : Below wr.heap.size wr w') : BSt w w' x bv v bs acc :=
  ⟨h.it.below hb h.it.lt, h.rk.below hb h.rk.lt, own_below h.own hb, h.rd.below hb, h.gp.below hb, h.bl.trans (hb.mono h.bl.size)⟩
theorem BSt.al {w wr : World} {x : Itm} {bv v : Value} {bs : List Bn} {acc : List Plc} (h : BSt w wr x bv v bs acc) (o : Obj) : BSt w (wr.alloc o) x bv v bs acc := h.below (box3 wr o)
theorem BSt.dr {w wr : World} {x : Itm} {bv v : Value} {bs : List Bn} {acc : List Plc} (h : BSt w wr x bv v bs acc) : BSt w wr.drew x bv v bs acc := h.below (below_drewN (Below.refl _ wr) 1)
theorem BSt.more {w wr w' : World} {x : Itm} {bv v v' : Value} {bs : List Bn} {acc acc' : List Plc} (h : BSt w wr x bv v bs acc) (hb : Below wr.heap.size wr w') (ho : w'.ownsRow wr.heap.size 88 2 v' acc'.length (cellsQ acc')) : BSt w w' x bv v' bs acc' := by
  have h2 := h.below hb
  have := h.rk.lt
  exact ⟨h2.it, h2.rk, own_low ho (by omega), h2.rd, h2.gp, h2.bl⟩
set_option maxHeartbeats 4000000 in
set_option maxRecDepth 100000 in
theorem Best_any (s : ByteArray) (x : Itm) (sc : Bn → Int) (bs : List Bn) (hbl : bs.length ≤ 100) (hs : ∀ y ∈ bs, ScoresAt s x sc y) (bv : Value) (k : Int) (hk : In64 k) (w : World) (hr : Reads w bv bs.length (cellsB bs)) (hg : GlobY w) :
    Calls Tryz.prog 37 #[.string s, itmA x, bv, .int .i64 k] w fun e w' => Below w.heap.size w w' ∧ ∃ v', e = .returned (.agg #[.int .i64 0, .int .i64 0, .int .i64 0, v']) ∧ w'.ownsRow (w.heap.size + 2) 88 2 v' ((bestL sc bs).take k.toNat).length (cellsQ ((bestL sc bs).take k.toNat)) := by
  have HS := Hid.mk2 hs
  have hb2 := two_below w (.cells #[.int .i64 x.size, .int .i64 x.speed, .int .i64 x.need] 28) (.cells #[.int .i64 0, .int .i64 0, .int .i64 0, .slice none 0 0] 52)
  have HM : Hid (BSt w (((w.alloc (.cells #[.int .i64 x.size, .int .i64 x.speed, .int .i64 x.need] 28)).alloc (.cells #[.int .i64 0, .int .i64 0, .int .i64 0, .slice none 0 0] 52)).alloc (.cells #[] 88)) x bv (.slice (some ⟨w.heap.size + 1 + 1, 0, none⟩) 0 0) bs (bestL sc (bs.take 0))) := by
    have e := own_nilQ ((w.alloc (.cells #[.int .i64 x.size, .int .i64 x.speed, .int .i64 x.need] 28)).alloc (.cells #[.int .i64 0, .int .i64 0, .int .i64 0, .slice none 0 0] 52)) (w.heap.size + 2) (by simp)
    have e2 : ((w.alloc (.cells #[.int .i64 x.size, .int .i64 x.speed, .int .i64 x.need] 28)).alloc (.cells #[.int .i64 0, .int .i64 0, .int .i64 0, .slice none 0 0] 52)).heap.size = w.heap.size + 1 + 1 := by simp
    rw [e2] at e
    have hrk := Blk.new (w.alloc (.cells #[.int .i64 x.size, .int .i64 x.speed, .int .i64 x.need] 28)) #[.int .i64 0, .int .i64 0, .int .i64 0, .slice none 0 0] 52
    have e3 : (w.alloc (.cells #[.int .i64 x.size, .int .i64 x.speed, .int .i64 x.need] 28)).heap.size = w.heap.size + 1 := by simp
    rw [e3] at hrk
    exact ⟨((Blk.new w _ _).alloc _).alloc _, hrk.alloc _, e, (hr.below hb2).alloc _, (hg.below hb2).below (box3 _ _), three_below w _ _ _⟩
  obtain ⟨a, c, rfl⟩ := hr.shape
  obtain ⟨lk, hlk⟩ : ∃ lk, (bestL sc bs).take k.toNat = lk := ⟨_, rfl⟩
  rw [hlk]
  have HLK := Hid.mk2 hlk
  clear hlk hs hr hg hb2
  unfold itmA
  go_enter Tryz.func37, Tryz.ntmps37
  go_wp2
  generalize ((w.alloc (.cells #[.int .i64 x.size, .int .i64 x.speed, .int .i64 x.need] 28)).alloc (.cells #[.int .i64 0, .int .i64 0, .int .i64 0, .slice none 0 0] 52)).alloc (.cells #[] 88) = w0 at HM ⊢
  go_loopw [9, 10] (fun v vi wr => ∃ i : Nat, i ≤ bs.length ∧ vi = .int .i64 i ∧ BSt w wr x (.slice a bs.length c) v bs (bestL sc (bs.take i))) (fun _ i _ => 1000 - (intOf i).toNat)
  case atStart => exact ⟨0, Nat.zero_le _, rfl, HM.out⟩
  case round =>
    obtain ⟨i, hi, rfl, hm⟩ := hrel
    clear HM
    have HQ := Hid.mk2 hm
    by_cases hlt : i < bs.length
    · obtain ⟨g, o, cap, hcut, hcap, hg, hc⟩ := hm.rd.pos (by omega)
      cases hcut
      obtain ⟨d0, d1, d2, d3, d4⟩ := bin_cells hc i hlt
      have HYS := Hid.mk2 (HS.out bs[i] (List.getElem_mem hlt))
      have HTK := Hid.mk2 (bestL_take sc bs i hlt)
      obtain ⟨y, hy⟩ : ∃ y, bs[i] = y := ⟨_, rfl⟩
      rw [hy] at d0 d1 d2 d3 d4 HYS HTK
      have HYD : Hid (∀ wx, BSt w wx x (.slice (some ⟨g, o, none⟩) bs.length c) u9 bs (bestL sc (bs.take i)) → g < wx.heap.size ∧ wx.cell? ⟨g, o + i * 5, none⟩ = some (.int .i64 y.id)) := by
        intro wx hx
        obtain ⟨g', o', cap', hcut', _, hg', hc'⟩ := hx.rd.pos (by omega)
        cases hcut'
        have := (bin_cells hc' i hlt).1
        rw [hy] at this
        exact ⟨hg', this⟩
      have hit := hm.it.lt
      have hrk := hm.rk.lt
      have i0 := hm.it.cell 0
      have i1 := hm.it.cell 1
      have i2 := hm.it.cell 2
      simp only [List.getElem?_toArray, List.getElem?_cons_zero, List.getElem?_cons_succ] at i0 i1 i2
      have hll : (bestL sc (bs.take i)).length ≤ 1000 := by rw [bestL_length]; simp; omega
      obtain ⟨acc, hacc⟩ : ∃ acc, bestL sc (bs.take i) = acc := ⟨_, rfl⟩
      rw [hacc] at HQ HTK hll HYD
      clear hm hc hy hacc
      go_upto_region 5 with fail
      go_cut [11] from 13 to 49 (fun s11 wx => ∃ zb n, s11 = .pointer (some ⟨zb, 0, none⟩) ∧ Blk wx zb #[.int .i64 1, .int .i64 (sc y), .int .i64 (n : Nat)] 23 ∧ BSt w wx x (.slice (some ⟨g, o, none⟩) bs.length c) u9 bs acc)
      case first =>
        go_region_with (go_at_call 66; refine (HYS.out _ (by first | with_reducible exact HQ.out.dr.gp | with_reducible exact (HQ.out.al (.cells #[.int .i64 0, .int .i64 0, .int .i64 0] 23)).dr.gp)).mono ?_; rintro e w8 ⟨hb8, n, rfl⟩; (first | (have hb9 : Below wr.drew.heap.size wr.drew w8 := (by with_reducible exact hb8); have HBX : Hid (Below wr.heap.size wr w8) := (below_drewN (Below.refl _ wr) 1).trans hb9; clear hb9) | (have hb9 : Below (wr.alloc (.cells #[.int .i64 0, .int .i64 0, .int .i64 0] 23)).drew.heap.size (wr.alloc (.cells #[.int .i64 0, .int .i64 0, .int .i64 0] 23)).drew w8 := (by with_reducible exact hb8); have hZ := (Blk.new wr #[.int .i64 0, .int .i64 0, .int .i64 0] 23).drew.below hb9 (by simp); have HBX : Hid (Below wr.heap.size wr w8) := (below_drewN (box3 wr (.cells #[.int .i64 0, .int .i64 0, .int .i64 0] 23)) 1).trans (hb9.mono (by simp)); clear hb9)); clear hb8; try (have q0 := hZ.cell 0; have q1 := hZ.cell 1; have q2 := hZ.cell 2; have z0 := hZ.free 0; have z1 := hZ.free 1; have z2 := hZ.free 2))
        all_goals
          go_wp2_with fail
          go_meet
          case rel => first | (have hZ1 := hZ; exact ⟨_, n, rfl, ((hZ.set 0 _).set 1 _).set 2 _, HQ.out.below (((HBX.out.setCell (p := ⟨wr.heap.size, 0, none⟩) (Nat.le_refl _) _).setCell (p := ⟨wr.heap.size, 1, none⟩) (Nat.le_refl _) _).setCell (p := ⟨wr.heap.size, 2, none⟩) (Nat.le_refl _) _)⟩) | exact ⟨_, n, rfl, Blk.new w8 _ _, (HQ.out.below HBX.out).al _⟩
      case rest =>
        obtain ⟨zb, n, rfl, hz, hq⟩ := hcut
        clear HQ i0 i1 i2 hit hrk d0 d1 d2 d3 d4
        have HQ := Hid.mk2 hq
        have HZ := Hid.mk2 hz
        have z0 := hz.cell 0
        have z1 := hz.cell 1
        have hzl := hz.lt
        simp only [List.getElem?_toArray, List.getElem?_cons_zero, List.getElem?_cons_succ] at z0 z1
        obtain ⟨hgl, d0⟩ := HYD.out _ hq
        clear hz hq
        go_upto_region 10 with fail
        go_region_with (go_at_call 67; refine (rwith_any acc hll ⟨y.id, sc y⟩ _ _ (by first | with_reducible exact reads_of_own HQ.out.dr.own | with_reducible exact reads_of_own HQ.out.own)).mono ?_; rintro e w9 ⟨hb9, v', rfl, ho9⟩; have HQ2 := Hid.mk2 (by first | with_reducible exact HQ.out.dr.more hb9 ho9 | with_reducible exact HQ.out.more hb9 ho9); clear hb9 ho9)
        all_goals
          go_wp2
          go_roundw
          case rel => exact ⟨i + 1, by omega, by go_num, by rw [HTK.out]; exact HQ2.out⟩
          case measure => simp [intOf]; omega
    · have hin : i = bs.length := by omega
      subst hin
      rw [List.take_length] at hm HQ
      have hll : (bestL sc bs).length ≤ 1000 := by rw [bestL_length]; omega
      have hrk := hm.rk.lt
      have r0 := hm.rk.cell 0
      clear hm r0
      go_wp2_with (go_at_call 68; refine (rfirst_any _ hll k hk _ _ (reads_of_own HQ.out.own)).mono ?_; rintro e w9 ⟨hb9, v', rfl, ho9⟩; rw [HLK.out] at ho9; obtain ⟨va, vc, hvs⟩ := (reads_of_own ho9).shape; subst hvs; have HO := Hid.mk2 (own_low (base' := w.heap.size + 2) ho9 (by omega)); replace HQ := Hid.mk2 (HQ.out.below hb9); clear hb9 ho9; have r0 := HQ.out.rk.cell 0; have r1 := HQ.out.rk.cell 1; have r2 := HQ.out.rk.cell 2; have r3 := HQ.out.rk.cell 3; have fr0 := HQ.out.rk.free 0; have fr1 := HQ.out.rk.free 1; have fr2 := HQ.out.rk.free 2; have fr3 := HQ.out.rk.free 3; have hrl := HQ.out.rk.lt; simp only [List.getElem?_toArray, List.getElem?_cons_zero, List.getElem?_cons_succ] at r0 r1 r2 r3)
      have hfb := (((HQ.out.rk.set 0 (.int .i64 0)).set 1 (.int .i64 0)).set 2 (.int .i64 0)).set 3 (.slice va lk.length vc)
      have g0 := hfb.cell 0
      have g1 := hfb.cell 1
      have g2 := hfb.cell 2
      have g3 := hfb.cell 3
      refine bodyPost_ret (v := .agg #[.int .i64 0, .int .i64 0, .int .i64 0, (.slice va lk.length vc)]) (by simp [results, Tryz.results37, go_sem, g0, g1, g2, g3]) rfl ⟨?_, _, rfl, ?_⟩
      · exact (((HQ.out.bl.setCell (p := ⟨w.heap.size + 1, 0, none⟩) (by simp only; omega) _).setCell (p := ⟨w.heap.size + 1, 1, none⟩) (by simp only; omega) _).setCell (p := ⟨w.heap.size + 1, 2, none⟩) (by simp only; omega) _).setCell (p := ⟨w.heap.size + 1, 3, none⟩) (by simp only; omega) _
      · exact own_setCell (own_setCell (own_setCell (own_setCell HO.out _ _ (by simp only; omega)) _ _ (by simp only; omega)) _ _ (by simp only; omega)) _ _ (by simp only; omega)
end Go.Proofs.YtjjbmbjmdgoofaaGreatDoor
