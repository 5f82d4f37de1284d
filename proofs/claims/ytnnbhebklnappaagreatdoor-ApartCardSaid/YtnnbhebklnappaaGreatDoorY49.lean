/-
  A move of one bin: moved.
  A store with these bins and the policy that rejects: filled.
-/
import Derived.Test.YtnnbhebklnappaaGreatDoorY48
import Derived.Test.YtnnbhebklnappaaGreatDoorY32
set_option linter.unusedVariables false
set_option linter.unusedSimpArgs false
namespace Go.Proofs.YtnnbhebklnappaaGreatDoor
open Go.RowKit

/-- What a move leaves: the bin as it goes out, and the store. -/
theorem mv_out {w wx : World} {sb : Nat} {bs : List Bn} {im : ByteArray} {b : Bn} {p : Bool} {mb mn : Int} (h : MvSt w wx sb bs im b p mb mn) (blk : Nat) (hb : blk = w.heap.size ∨ blk = w.heap.size + 1 + 1) (i : Nat) (v : Value) : StoreAt (wx.setCell ⟨blk, i, none⟩ v) sb bs im ∧ But sb w (wx.setCell ⟨blk, i, none⟩ v) := by
  have hlt := h.lt
  refine ⟨h.st.st blk i v (by omega) (fun a c h1 k hk => ?_), h.bl.st blk i (by omega) v⟩
  have := h.off _ _ h1 k hk
  omega
/-- Some cells of the two boxes are written, one after the other. -/
structure MvEnd (w wx : World) (sb : Nat) (bs : List Bn) (im : ByteArray) : Prop where
  st : StoreAt wx sb bs im
  bl : But sb w wx
  lt : sb < w.heap.size
  off : ∀ v im, Blk wx sb #[v, .string im] 95 → ∀ k, v.ownBlock = some k → k < w.heap.size ∨ w.heap.size + 1 + 1 < k
  rn : RowNew w wx sb
theorem MvSt.fin {w wx : World} {sb : Nat} {bs : List Bn} {im : ByteArray} {b : Bn} {p : Bool} {mb mn : Int} (h : MvSt w wx sb bs im b p mb mn) : MvEnd w wx sb bs im := ⟨h.st, h.bl, h.lt, h.off, h.rn⟩
theorem Blk.back {w : World} {b : Nat} {cs : Array Value} {t : TypeId} {a : Addr} {v : Value} (h : Blk (w.setCell a v) b cs t) (hne : b ≠ a.block) : Blk w b cs t := by
  unfold Blk at h ⊢
  rw [Below.heap_setCell _ _ _ _ hne] at h
  exact h
theorem MvEnd.set {w wx : World} {sb : Nat} {bs : List Bn} {im : ByteArray} (h : MvEnd w wx sb bs im) (blk i : Nat) (hb : blk = w.heap.size ∨ blk = w.heap.size + 1 + 1) (v : Value) : MvEnd w (wx.setCell ⟨blk, i, none⟩ v) sb bs im := by
  have hlt := h.lt
  refine ⟨h.st.st blk i v (by omega) (fun a c h1 k hk => ?_), h.bl.st blk i (by omega) v, h.lt, fun v' im' h1 k hk => ?_, fun v' im' h1 => h.rn v' im' (h1.back (by simp only; omega))⟩
  · have := h.off _ _ h1 k hk
    omega
  · exact h.off v' im' (h1.back (by simp only; omega)) k hk
theorem room_ways (R n : Int) (h : 0 ≤ R) : (R < n ∧ (R == 0) = true) ∨ (R < n ∧ (R == 0) = false ∧ 0 < R) ∨ n ≤ R := by
  by_cases h1 : n ≤ R
  · exact .inr (.inr h1)
  by_cases h2 : R = 0
  · exact .inl ⟨by omega, by simpa using h2⟩
  · exact .inr (.inl ⟨by omega, by simpa using h2, by omega⟩)
set_option maxHeartbeats 4000000 in
set_option maxRecDepth 100000 in
theorem moved_put (sb : Nat) (bs : List Bn) (im : ByteArray) (k : Nat) (hk : k < bs.length) (mb mn : Int) (hmn : In64 mn) (hsh : Shelf bs) (hl : bs.length ≤ 100) (b : Bn) (hb : bs[k] = b) (w : World) (h : StoreAt w sb bs im) :
    Calls Tryz.prog 25 #[.pointer (some ⟨sb, 0, none⟩), bnA b, .agg #[.bool false, .int .i64 mb, .int .i64 mn]] w fun e w' => ∃ b' : Bn, b'.Ok ∧ b'.id = b.id ∧ e = .returned (.tuple #[bnA b', .bool true]) ∧ StoreAt w' sb (bs.set k b') im ∧ But sb w w' ∧ RowNew w w' sb := by
  have HM := Hid.mk2 (mv_start h b false mb mn)
  have hbo : b.Ok := hsh.ok b (by rw [← hb]; exact List.getElem_mem hk)
  have HBO := Hid.mk2 hbo
  obtain ⟨o1, o2, ⟨o3, o4⟩, ⟨o5, o6⟩, o7⟩ := hbo
  have HSH := Hid.mk2 hsh
  have HB := Hid.mk2 hb
  have HSET : Hid (bs.set k b = bs) := by rw [Hid, ← hb]; exact List.set_getElem_self hk
  have HMN := Hid.mk2 hmn
  have HRM : Hid (roomB false b = b.cap - b.used) := rfl
  have hlt := h.lt
  clear h hsh hb hmn
  unfold bnA
  go_enter Tryz.func25, Tryz.ntmps25
  go_wp2_with (first
    | (go_at_call 24; refine (pick_any mn 1000 HMN.out (by omega) _).mono ?_; rintro e _ ⟨⟨r, hr0, hr1, rfl⟩, rfl⟩; generalize hw0 : ((w.alloc (.cells #[.int .i64 b.id, .int .i64 b.zone, .int .i64 b.cap, .int .i64 b.used, .int .i64 b.has] 25)).alloc (.cells #[.bool false, .int .i64 mb, .int .i64 mn] 66)).alloc (.cells #[.int .i64 0, .int .i64 0, .int .i64 0, .int .i64 0, .int .i64 0] 25) = w0 at *; clear hw0; have d0 := HM.out.b4.cell 0; have d1 := HM.out.b4.cell 1; have d2 := HM.out.b4.cell 2; have d3 := HM.out.b4.cell 3; have d4 := HM.out.b4.cell 4; have m0 := HM.out.b5.cell 0; have m1 := HM.out.b5.cell 1; have m2 := HM.out.b5.cell 2; have fd := HM.out.b4.free 3; have q0 := HM.out.b6.cell 0; have q1 := HM.out.b6.cell 1; have q2 := HM.out.b6.cell 2; have q3 := HM.out.b6.cell 3; have q4 := HM.out.b6.cell 4; have f0 := HM.out.b6.free 0; have f1 := HM.out.b6.free 1; have f2 := HM.out.b6.free 2; have f3 := HM.out.b6.free 3; have f4 := HM.out.b6.free 4; rcases room_ways (b.cap - b.used) (1 + r) (by omega) with ⟨hov, hz⟩ | ⟨hov, hz, hz2⟩ | hfi)
    | (go_at_call 53; have hov1 := hov; clear hov; refine (change_over sb bs im false mb mn (1 + r) (by unfold In64; omega) b k hk HB.out HSH.out (by omega) (by rw [HRM.out]; exact hov1) _ HM.out.st hl).mono ?_; rintro e w1 ⟨rfl, hs1, hb1, hr1⟩; rw [show overK false = 11 from rfl]; replace HM := Hid.mk2 (HM.out.to hb1 hs1 hr1); clear hs1 hb1 hr1; have d0 := HM.out.b4.cell 0; have d1 := HM.out.b4.cell 1; have d2 := HM.out.b4.cell 2; have d3 := HM.out.b4.cell 3; have d4 := HM.out.b4.cell 4; have m0 := HM.out.b5.cell 0; have m1 := HM.out.b5.cell 1; have m2 := HM.out.b5.cell 2; have fd := HM.out.b4.free 3; have q0 := HM.out.b6.cell 0; have q1 := HM.out.b6.cell 1; have q2 := HM.out.b6.cell 2; have q3 := HM.out.b6.cell 3; have q4 := HM.out.b6.cell 4; have f0 := HM.out.b6.free 0; have f1 := HM.out.b6.free 1; have f2 := HM.out.b6.free 2; have f3 := HM.out.b6.free 3; have f4 := HM.out.b6.free 4)
    | (go_at_call 53; have hfi1 := hfi; clear hfi; refine (change_fine sb bs im false mb mn (1 + r) (by unfold In64; omega) b k hk HB.out HSH.out (by omega) (by rw [HRM.out]; exact hfi1) _ HM.out.st hl).mono ?_; rintro e w2 ⟨rfl, hs1, hb1, hr1⟩; replace HM := Hid.mk2 (HM.out.to hb1 hs1 hr1); clear hs1 hb1 hr1; have d0 := HM.out.b4.cell 0; have d1 := HM.out.b4.cell 1; have d2 := HM.out.b4.cell 2; have d3 := HM.out.b4.cell 3; have d4 := HM.out.b4.cell 4; have m0 := HM.out.b5.cell 0; have m1 := HM.out.b5.cell 1; have m2 := HM.out.b5.cell 2; have fd := HM.out.b4.free 3; have q0 := HM.out.b6.cell 0; have q1 := HM.out.b6.cell 1; have q2 := HM.out.b6.cell 2; have q3 := HM.out.b6.cell 3; have q4 := HM.out.b6.cell 4; have f0 := HM.out.b6.free 0; have f1 := HM.out.b6.free 1; have f2 := HM.out.b6.free 2; have f3 := HM.out.b6.free 3; have f4 := HM.out.b6.free 4; have hU := HM.out.b4.set 3 (.int .i64 (b.used + (1 + r))); have u0 := hU.cell 0; have u1 := hU.cell 1; have u2 := hU.cell 2; have u3 := hU.cell 3; have u4 := hU.cell 4; have hV := HM.out.b6.other ⟨w.heap.size, 3, none⟩ (.int .i64 (b.used + (1 + r))) (by simp only; omega); have y0 := hV.cell 0; have y1 := hV.cell 1; have y2 := hV.cell 2; have y3 := hV.cell 3; have y4 := hV.cell 4; have x0 := hV.free 0; have x1 := hV.free 1; have x2 := hV.free 2; have x3 := hV.free 3; have x4 := hV.free 4)
    | (go_at_call 53; refine (change_fine sb bs im false mb mn (b.cap - b.used) (by unfold In64; omega) b k hk HB.out HSH.out (by omega) (by rw [HRM.out]; exact Int.le_refl _) _ HM.out.st hl).mono ?_; rintro e w2 ⟨rfl, hs1, hb1, hr1⟩; replace HM := Hid.mk2 (HM.out.to hb1 hs1 hr1); clear hs1 hb1 hr1; have d0 := HM.out.b4.cell 0; have d1 := HM.out.b4.cell 1; have d2 := HM.out.b4.cell 2; have d3 := HM.out.b4.cell 3; have d4 := HM.out.b4.cell 4; have m0 := HM.out.b5.cell 0; have m1 := HM.out.b5.cell 1; have m2 := HM.out.b5.cell 2; have fd := HM.out.b4.free 3; have q0 := HM.out.b6.cell 0; have q1 := HM.out.b6.cell 1; have q2 := HM.out.b6.cell 2; have q3 := HM.out.b6.cell 3; have q4 := HM.out.b6.cell 4; have f0 := HM.out.b6.free 0; have f1 := HM.out.b6.free 1; have f2 := HM.out.b6.free 2; have f3 := HM.out.b6.free 3; have f4 := HM.out.b6.free 4; have hU := HM.out.b4.set 3 (.int .i64 (b.used + (b.cap - b.used))); have u0 := hU.cell 0; have u1 := hU.cell 1; have u2 := hU.cell 2; have u3 := hU.cell 3; have u4 := hU.cell 4; have hV := HM.out.b6.other ⟨w.heap.size, 3, none⟩ (.int .i64 (b.used + (b.cap - b.used))) (by simp only; omega); have y0 := hV.cell 0; have y1 := hV.cell 1; have y2 := hV.cell 2; have y3 := hV.cell 3; have y4 := hV.cell 4; have x0 := hV.free 0; have x1 := hV.free 1; have x2 := hV.free 2; have x3 := hV.free 3; have x4 := hV.free 4))
  · have hfb := (((((HM.out.b6).set 0 (.int .i64 b.id)).set 1 (.int .i64 b.zone)).set 2 (.int .i64 b.cap)).set 3 (.int .i64 b.used)).set 4 (.int .i64 b.has)
    have g0 := hfb.cell 0
    have g1 := hfb.cell 1
    have g2 := hfb.cell 2
    have g3 := hfb.cell 3
    have g4 := hfb.cell 4
    have hE := (((((HM.out.fin).set (w.heap.size + 1 + 1) 0 (.inr rfl) (.int .i64 b.id)).set (w.heap.size + 1 + 1) 1 (.inr rfl) (.int .i64 b.zone)).set (w.heap.size + 1 + 1) 2 (.inr rfl) (.int .i64 b.cap)).set (w.heap.size + 1 + 1) 3 (.inr rfl) (.int .i64 b.used)).set (w.heap.size + 1 + 1) 4 (.inr rfl) (.int .i64 b.has)
    refine bodyPost_ret (v := .tuple #[.agg #[.int .i64 b.id, .int .i64 b.zone, .int .i64 b.cap, .int .i64 b.used, .int .i64 b.has], .bool true]) (by simp [results, Tryz.results25, go_sem, g0, g1, g2, g3, g4]) rfl ⟨b, HBO.out, rfl, rfl, by rw [HSET.out]; exact hE.st, hE.bl, hE.rn⟩
  ·
    have hfb := (((((hV).set 0 (.int .i64 b.id)).set 1 (.int .i64 b.zone)).set 2 (.int .i64 b.cap)).set 3 (.int .i64 (b.used + (b.cap - b.used)))).set 4 (.int .i64 b.has)
    have g0 := hfb.cell 0
    have g1 := hfb.cell 1
    have g2 := hfb.cell 2
    have g3 := hfb.cell 3
    have g4 := hfb.cell 4
    have hE := (((((HM.out.fin.set w.heap.size 3 (.inl rfl) (.int .i64 (b.used + (b.cap - b.used)))).set (w.heap.size + 1 + 1) 0 (.inr rfl) (.int .i64 b.id)).set (w.heap.size + 1 + 1) 1 (.inr rfl) (.int .i64 b.zone)).set (w.heap.size + 1 + 1) 2 (.inr rfl) (.int .i64 b.cap)).set (w.heap.size + 1 + 1) 3 (.inr rfl) (.int .i64 (b.used + (b.cap - b.used)))).set (w.heap.size + 1 + 1) 4 (.inr rfl) (.int .i64 b.has)
    refine bodyPost_ret (v := .tuple #[.agg #[.int .i64 b.id, .int .i64 b.zone, .int .i64 b.cap, .int .i64 (b.used + (b.cap - b.used)), .int .i64 b.has], .bool true]) (by simp [results, Tryz.results25, go_sem, g0, g1, g2, g3, g4]) rfl ⟨doneB false b (b.cap - b.used), (doneB_ok HBO.out (by omega) (by rw [HRM.out]; exact Int.le_refl _)).1, (doneB_ok HBO.out (by omega) (by rw [HRM.out]; exact Int.le_refl _)).2, rfl, hE.st, hE.bl, hE.rn⟩
  ·
    have hfb := (((((hV).set 0 (.int .i64 b.id)).set 1 (.int .i64 b.zone)).set 2 (.int .i64 b.cap)).set 3 (.int .i64 (b.used + (1 + r)))).set 4 (.int .i64 b.has)
    have g0 := hfb.cell 0
    have g1 := hfb.cell 1
    have g2 := hfb.cell 2
    have g3 := hfb.cell 3
    have g4 := hfb.cell 4
    have hE := (((((HM.out.fin.set w.heap.size 3 (.inl rfl) (.int .i64 (b.used + (1 + r)))).set (w.heap.size + 1 + 1) 0 (.inr rfl) (.int .i64 b.id)).set (w.heap.size + 1 + 1) 1 (.inr rfl) (.int .i64 b.zone)).set (w.heap.size + 1 + 1) 2 (.inr rfl) (.int .i64 b.cap)).set (w.heap.size + 1 + 1) 3 (.inr rfl) (.int .i64 (b.used + (1 + r)))).set (w.heap.size + 1 + 1) 4 (.inr rfl) (.int .i64 b.has)
    refine bodyPost_ret (v := .tuple #[.agg #[.int .i64 b.id, .int .i64 b.zone, .int .i64 b.cap, .int .i64 (b.used + (1 + r)), .int .i64 b.has], .bool true]) (by simp [results, Tryz.results25, go_sem, g0, g1, g2, g3, g4]) rfl ⟨doneB false b (1 + r), (doneB_ok HBO.out (by omega) (by rw [HRM.out]; exact hfi1)).1, (doneB_ok HBO.out (by omega) (by rw [HRM.out]; exact hfi1)).2, rfl, hE.st, hE.bl, hE.rn⟩
set_option maxHeartbeats 4000000 in
set_option maxRecDepth 100000 in
theorem moved_pick (sb : Nat) (bs : List Bn) (im : ByteArray) (k : Nat) (hk : k < bs.length) (mb mn : Int) (hmn : In64 mn) (hsh : Shelf bs) (hl : bs.length ≤ 100) (b : Bn) (hb : bs[k] = b) (w : World) (h : StoreAt w sb bs im) :
    Calls Tryz.prog 25 #[.pointer (some ⟨sb, 0, none⟩), bnA b, .agg #[.bool true, .int .i64 mb, .int .i64 mn]] w fun e w' => ∃ b' : Bn, b'.Ok ∧ b'.id = b.id ∧ e = .returned (.tuple #[bnA b', .bool true]) ∧ StoreAt w' sb (bs.set k b') im ∧ But sb w w' ∧ RowNew w w' sb := by
  have HM := Hid.mk2 (mv_start h b true mb mn)
  have hbo : b.Ok := hsh.ok b (by rw [← hb]; exact List.getElem_mem hk)
  have HBO := Hid.mk2 hbo
  obtain ⟨o1, o2, ⟨o3, o4⟩, ⟨o5, o6⟩, o7⟩ := hbo
  have HSH := Hid.mk2 hsh
  have HB := Hid.mk2 hb
  have HSET : Hid (bs.set k b = bs) := by rw [Hid, ← hb]; exact List.set_getElem_self hk
  have HMN := Hid.mk2 hmn
  have HRM : Hid (roomB true b = b.used) := rfl
  have hlt := h.lt
  clear h hsh hb hmn
  unfold bnA
  go_enter Tryz.func25, Tryz.ntmps25
  go_wp2_with (first
    | (go_at_call 24; refine (pick_any mn 1000 HMN.out (by omega) _).mono ?_; rintro e _ ⟨⟨r, hr0, hr1, rfl⟩, rfl⟩; generalize hw0 : ((w.alloc (.cells #[.int .i64 b.id, .int .i64 b.zone, .int .i64 b.cap, .int .i64 b.used, .int .i64 b.has] 25)).alloc (.cells #[.bool true, .int .i64 mb, .int .i64 mn] 66)).alloc (.cells #[.int .i64 0, .int .i64 0, .int .i64 0, .int .i64 0, .int .i64 0] 25) = w0 at *; clear hw0; have d0 := HM.out.b4.cell 0; have d1 := HM.out.b4.cell 1; have d2 := HM.out.b4.cell 2; have d3 := HM.out.b4.cell 3; have d4 := HM.out.b4.cell 4; have m0 := HM.out.b5.cell 0; have m1 := HM.out.b5.cell 1; have m2 := HM.out.b5.cell 2; have fd := HM.out.b4.free 3; have q0 := HM.out.b6.cell 0; have q1 := HM.out.b6.cell 1; have q2 := HM.out.b6.cell 2; have q3 := HM.out.b6.cell 3; have q4 := HM.out.b6.cell 4; have f0 := HM.out.b6.free 0; have f1 := HM.out.b6.free 1; have f2 := HM.out.b6.free 2; have f3 := HM.out.b6.free 3; have f4 := HM.out.b6.free 4; rcases room_ways (b.used) (1 + r) (by omega) with ⟨hov, hz⟩ | ⟨hov, hz, hz2⟩ | hfi)
    | (go_at_call 53; have hov1 := hov; clear hov; refine (change_over sb bs im true mb mn (1 + r) (by unfold In64; omega) b k hk HB.out HSH.out (by omega) (by rw [HRM.out]; exact hov1) _ HM.out.st hl).mono ?_; rintro e w1 ⟨rfl, hs1, hb1, hr1⟩; rw [show overK true = 14 from rfl]; replace HM := Hid.mk2 (HM.out.to hb1 hs1 hr1); clear hs1 hb1 hr1; have d0 := HM.out.b4.cell 0; have d1 := HM.out.b4.cell 1; have d2 := HM.out.b4.cell 2; have d3 := HM.out.b4.cell 3; have d4 := HM.out.b4.cell 4; have m0 := HM.out.b5.cell 0; have m1 := HM.out.b5.cell 1; have m2 := HM.out.b5.cell 2; have fd := HM.out.b4.free 3; have q0 := HM.out.b6.cell 0; have q1 := HM.out.b6.cell 1; have q2 := HM.out.b6.cell 2; have q3 := HM.out.b6.cell 3; have q4 := HM.out.b6.cell 4; have f0 := HM.out.b6.free 0; have f1 := HM.out.b6.free 1; have f2 := HM.out.b6.free 2; have f3 := HM.out.b6.free 3; have f4 := HM.out.b6.free 4)
    | (go_at_call 53; have hfi1 := hfi; clear hfi; refine (change_fine sb bs im true mb mn (1 + r) (by unfold In64; omega) b k hk HB.out HSH.out (by omega) (by rw [HRM.out]; exact hfi1) _ HM.out.st hl).mono ?_; rintro e w2 ⟨rfl, hs1, hb1, hr1⟩; replace HM := Hid.mk2 (HM.out.to hb1 hs1 hr1); clear hs1 hb1 hr1; have d0 := HM.out.b4.cell 0; have d1 := HM.out.b4.cell 1; have d2 := HM.out.b4.cell 2; have d3 := HM.out.b4.cell 3; have d4 := HM.out.b4.cell 4; have m0 := HM.out.b5.cell 0; have m1 := HM.out.b5.cell 1; have m2 := HM.out.b5.cell 2; have fd := HM.out.b4.free 3; have q0 := HM.out.b6.cell 0; have q1 := HM.out.b6.cell 1; have q2 := HM.out.b6.cell 2; have q3 := HM.out.b6.cell 3; have q4 := HM.out.b6.cell 4; have f0 := HM.out.b6.free 0; have f1 := HM.out.b6.free 1; have f2 := HM.out.b6.free 2; have f3 := HM.out.b6.free 3; have f4 := HM.out.b6.free 4; have hU := HM.out.b4.set 3 (.int .i64 (b.used - (1 + r))); have u0 := hU.cell 0; have u1 := hU.cell 1; have u2 := hU.cell 2; have u3 := hU.cell 3; have u4 := hU.cell 4; have hV := HM.out.b6.other ⟨w.heap.size, 3, none⟩ (.int .i64 (b.used - (1 + r))) (by simp only; omega); have y0 := hV.cell 0; have y1 := hV.cell 1; have y2 := hV.cell 2; have y3 := hV.cell 3; have y4 := hV.cell 4; have x0 := hV.free 0; have x1 := hV.free 1; have x2 := hV.free 2; have x3 := hV.free 3; have x4 := hV.free 4)
    | (go_at_call 53; refine (change_fine sb bs im true mb mn (b.used) (by unfold In64; omega) b k hk HB.out HSH.out (by omega) (by rw [HRM.out]; exact Int.le_refl _) _ HM.out.st hl).mono ?_; rintro e w2 ⟨rfl, hs1, hb1, hr1⟩; replace HM := Hid.mk2 (HM.out.to hb1 hs1 hr1); clear hs1 hb1 hr1; have d0 := HM.out.b4.cell 0; have d1 := HM.out.b4.cell 1; have d2 := HM.out.b4.cell 2; have d3 := HM.out.b4.cell 3; have d4 := HM.out.b4.cell 4; have m0 := HM.out.b5.cell 0; have m1 := HM.out.b5.cell 1; have m2 := HM.out.b5.cell 2; have fd := HM.out.b4.free 3; have q0 := HM.out.b6.cell 0; have q1 := HM.out.b6.cell 1; have q2 := HM.out.b6.cell 2; have q3 := HM.out.b6.cell 3; have q4 := HM.out.b6.cell 4; have f0 := HM.out.b6.free 0; have f1 := HM.out.b6.free 1; have f2 := HM.out.b6.free 2; have f3 := HM.out.b6.free 3; have f4 := HM.out.b6.free 4; have hU := HM.out.b4.set 3 (.int .i64 0); have u0 := hU.cell 0; have u1 := hU.cell 1; have u2 := hU.cell 2; have u3 := hU.cell 3; have u4 := hU.cell 4; have hV := HM.out.b6.other ⟨w.heap.size, 3, none⟩ (.int .i64 0) (by simp only; omega); have y0 := hV.cell 0; have y1 := hV.cell 1; have y2 := hV.cell 2; have y3 := hV.cell 3; have y4 := hV.cell 4; have x0 := hV.free 0; have x1 := hV.free 1; have x2 := hV.free 2; have x3 := hV.free 3; have x4 := hV.free 4))
  · have hfb := (((((HM.out.b6).set 0 (.int .i64 b.id)).set 1 (.int .i64 b.zone)).set 2 (.int .i64 b.cap)).set 3 (.int .i64 b.used)).set 4 (.int .i64 b.has)
    have g0 := hfb.cell 0
    have g1 := hfb.cell 1
    have g2 := hfb.cell 2
    have g3 := hfb.cell 3
    have g4 := hfb.cell 4
    have hE := (((((HM.out.fin).set (w.heap.size + 1 + 1) 0 (.inr rfl) (.int .i64 b.id)).set (w.heap.size + 1 + 1) 1 (.inr rfl) (.int .i64 b.zone)).set (w.heap.size + 1 + 1) 2 (.inr rfl) (.int .i64 b.cap)).set (w.heap.size + 1 + 1) 3 (.inr rfl) (.int .i64 b.used)).set (w.heap.size + 1 + 1) 4 (.inr rfl) (.int .i64 b.has)
    refine bodyPost_ret (v := .tuple #[.agg #[.int .i64 b.id, .int .i64 b.zone, .int .i64 b.cap, .int .i64 b.used, .int .i64 b.has], .bool true]) (by simp [results, Tryz.results25, go_sem, g0, g1, g2, g3, g4]) rfl ⟨b, HBO.out, rfl, rfl, by rw [HSET.out]; exact hE.st, hE.bl, hE.rn⟩
  ·
    have hfb := (((((hV).set 0 (.int .i64 b.id)).set 1 (.int .i64 b.zone)).set 2 (.int .i64 b.cap)).set 3 (.int .i64 0)).set 4 (.int .i64 b.has)
    have g0 := hfb.cell 0
    have g1 := hfb.cell 1
    have g2 := hfb.cell 2
    have g3 := hfb.cell 3
    have g4 := hfb.cell 4
    have hE := (((((HM.out.fin.set w.heap.size 3 (.inl rfl) (.int .i64 0)).set (w.heap.size + 1 + 1) 0 (.inr rfl) (.int .i64 b.id)).set (w.heap.size + 1 + 1) 1 (.inr rfl) (.int .i64 b.zone)).set (w.heap.size + 1 + 1) 2 (.inr rfl) (.int .i64 b.cap)).set (w.heap.size + 1 + 1) 3 (.inr rfl) (.int .i64 0)).set (w.heap.size + 1 + 1) 4 (.inr rfl) (.int .i64 b.has)
    refine bodyPost_ret (v := .tuple #[.agg #[.int .i64 b.id, .int .i64 b.zone, .int .i64 b.cap, .int .i64 0, .int .i64 b.has], .bool true]) (by simp [results, Tryz.results25, go_sem, g0, g1, g2, g3, g4]) rfl ⟨doneB true b (b.used), (doneB_ok HBO.out (by omega) (by rw [HRM.out]; exact Int.le_refl _)).1, (doneB_ok HBO.out (by omega) (by rw [HRM.out]; exact Int.le_refl _)).2, by simp [doneB], hE.st, hE.bl, hE.rn⟩
  ·
    have hfb := (((((hV).set 0 (.int .i64 b.id)).set 1 (.int .i64 b.zone)).set 2 (.int .i64 b.cap)).set 3 (.int .i64 (b.used - (1 + r)))).set 4 (.int .i64 b.has)
    have g0 := hfb.cell 0
    have g1 := hfb.cell 1
    have g2 := hfb.cell 2
    have g3 := hfb.cell 3
    have g4 := hfb.cell 4
    have hE := (((((HM.out.fin.set w.heap.size 3 (.inl rfl) (.int .i64 (b.used - (1 + r)))).set (w.heap.size + 1 + 1) 0 (.inr rfl) (.int .i64 b.id)).set (w.heap.size + 1 + 1) 1 (.inr rfl) (.int .i64 b.zone)).set (w.heap.size + 1 + 1) 2 (.inr rfl) (.int .i64 b.cap)).set (w.heap.size + 1 + 1) 3 (.inr rfl) (.int .i64 (b.used - (1 + r)))).set (w.heap.size + 1 + 1) 4 (.inr rfl) (.int .i64 b.has)
    refine bodyPost_ret (v := .tuple #[.agg #[.int .i64 b.id, .int .i64 b.zone, .int .i64 b.cap, .int .i64 (b.used - (1 + r)), .int .i64 b.has], .bool true]) (by simp [results, Tryz.results25, go_sem, g0, g1, g2, g3, g4]) rfl ⟨doneB true b (1 + r), (doneB_ok HBO.out (by omega) (by rw [HRM.out]; exact hfi1)).1, (doneB_ok HBO.out (by omega) (by rw [HRM.out]; exact hfi1)).2, rfl, hE.st, hE.bl, hE.rn⟩
theorem moved_any (sb : Nat) (bs : List Bn) (im : ByteArray) (k : Nat) (hk : k < bs.length) (p : Bool) (mb mn : Int) (hmn : In64 mn) (hsh : Shelf bs) (hl : bs.length ≤ 100) (b : Bn) (hb : bs[k] = b) (w : World) (h : StoreAt w sb bs im) :
    Calls Tryz.prog 25 #[.pointer (some ⟨sb, 0, none⟩), bnA b, .agg #[.bool p, .int .i64 mb, .int .i64 mn]] w fun e w' => ∃ b' : Bn, b'.Ok ∧ b'.id = b.id ∧ e = .returned (.tuple #[bnA b', .bool true]) ∧ StoreAt w' sb (bs.set k b') im ∧ But sb w w' ∧ RowNew w w' sb := by
  cases p
  · exact moved_put sb bs im k hk mb mn hmn hsh hl b hb w h
  · exact moved_pick sb bs im k hk mb mn hmn hsh hl b hb w h
end Go.Proofs.YtnnbhebklnappaaGreatDoor

set_option linter.unusedVariables false
set_option linter.unusedSimpArgs false
namespace Go.Proofs.YtnnbhebklnappaaGreatDoor
open Go.RowKit

theorem insB_front {l : List Bn} {b : Bn} (h : ∀ x ∈ l, b.id < x.id) : insB l b = b :: l := by
  have := insB_at (l := l) (b := b) 0 (Nat.zero_le _) (fun j hj hj0 => by omega) (fun h0 h1 => by have := h l[0] (List.getElem_mem h0); omega)
  simpa using this
theorem addK_front {l : List Bn} {b : Bn} (hb : b.Ok) (h : ∀ x ∈ l, b.id < x.id) (hl : l.length < 12) : addK l b = 0 := by
  unfold addK
  rw [if_neg (by rw [(bnB_iff b).2 hb]; simp), findB_none (fun x hx => by have := h x hx; omega), if_neg (by simp), if_neg (by omega)]
theorem shelf_front {l : List Bn} (h : Shelf l) (j : Nat) (hj : j < l.length) : ∀ x ∈ l.drop (j + 1), l[j].id < x.id := by
  intro x hx
  obtain ⟨k, hk, rfl⟩ := List.getElem_of_mem hx
  rw [List.getElem_drop]
  simp at hk
  exact h.up j (j + 1 + k) hj (by omega) (by omega)
theorem store_new (w : World) : StoreAt (w.alloc (.cells #[.slice none 0 0, .string { data := #[] }] 95)) w.heap.size [] { data := #[] } := ⟨none, 0, Blk.new w _ _, World.ownsRow_nil _ _ _ _⟩
set_option maxHeartbeats 1000000 in
theorem New_at (w : World) :
    Calls Tryz.prog 26 #[] w fun e w' => e = .returned (.pointer (some ⟨w.heap.size, 0, none⟩)) ∧ w' = w.alloc (.cells #[.slice none 0 0, .string { data := #[] }] 95) := by
  go_enter Tryz.func26, Tryz.ntmps26
  go_wp2
  go_ret
  exact ⟨rfl, rfl⟩
set_option maxHeartbeats 2000000 in
set_option maxRecDepth 100000 in
theorem filled_any (l : List Bn) (v : Value) (w : World) (hg : GlobT w) (hp : GlobB w) (hs : Shelf l) (h12 : l.length ≤ 12) (h : Reads w v l.length (cellsB l)) :
    Calls Tryz.prog 12 #[v, .string rejB] w fun e w' => e = .returned (.tuple #[.pointer (some ⟨w.heap.size, 0, none⟩), .bool true]) ∧ StoreAt w' w.heap.size l (bsN [83, 76, 0, 17]) ∧ Below w.heap.size w w' := by
  obtain ⟨a, c, rfl⟩ := h.shape
  have HH := Hid.mk2 h
  have HG := Hid.mk2 hg
  have HP := Hid.mk2 hp
  have HS := Hid.mk2 hs
  have HST := Hid.mk2 (store_new w)
  have HB0 := Hid.mk2 (box3 w (.cells #[.slice none 0 0, .string { data := #[] }] 95))
  clear h hg hp hs
  go_enter Tryz.func12, Tryz.ntmps12
  go_wp2_with (go_at_call 26; refine (New_at _).mono ?_; rintro e _ ⟨rfl, rfl⟩)
  go_loopw [7] (fun vi wr => ∃ (j : Nat), j ≤ l.length ∧ vi = .int .i64 ((j : Int) - 1) ∧ StoreAt wr w.heap.size (l.drop j) { data := #[] } ∧ Below w.heap.size w wr) (fun i _ => (intOf i + 1).toNat)
  case atStart => exact ⟨l.length, Nat.le_refl _, by go_num, by rw [List.drop_length]; exact HST.out, HB0.out⟩
  case round =>
    obtain ⟨j, hj, rfl, hst, hbel⟩ := hrel
    have HQ := Hid.mk2 hst
    have HBL := Hid.mk2 hbel
    have hbs := hbel.size
    clear hst hbel
    by_cases hj0 : j = 0
    · subst hj0
      go_wp2_with (go_at_call 41; refine (Load_rej _ _ _ _ (HG.out.below HBL.out) (HP.out.below HBL.out) HQ.out).mono ?_; rintro e w2 ⟨rfl, hs2, hb2⟩; have H1 := Hid.mk2 hs2; have H2 := Hid.mk2 hb2; clear hs2 hb2)
      go_ret2
      exact ⟨rfl, by simpa using H1.out, HBL.out.trans (H2.out.below (Nat.le_refl _) hbs)⟩
    · obtain ⟨i, rfl⟩ : ∃ i, j = i + 1 := ⟨j - 1, by omega⟩
      have hil : i < l.length := by omega
      have hd : decide (0 ≤ (i : Int)) = true := by simp
      have hsub : ((i + 1 : Nat) : Int) - 1 = (i : Int) := by simp
      obtain ⟨g, o, cap, hcut, hcap, hgl, hc⟩ := HH.out.pos (by omega)
      cases hcut
      obtain ⟨c0, c1, c2, c3, c4⟩ := bin_cells hc i hil
      have e0 := (HBL.out.cell (p := ⟨g, o + i * 5, none⟩) hgl).trans c0
      have e1 := (HBL.out.cell (p := ⟨g, o + i * 5 + 1, none⟩) hgl).trans c1
      have e2 := (HBL.out.cell (p := ⟨g, o + i * 5 + 2, none⟩) hgl).trans c2
      have e3 := (HBL.out.cell (p := ⟨g, o + i * 5 + 3, none⟩) hgl).trans c3
      have e4 := (HBL.out.cell (p := ⟨g, o + i * 5 + 4, none⟩) hgl).trans c4
      have HK : Hid (addK (l.drop (i + 1)) l[i] = 0) := addK_front (HS.out.ok _ (List.getElem_mem hil)) (shelf_front HS.out i hil) (by simp; omega)
      have HI : Hid (insB (l.drop (i + 1)) l[i] = l.drop i) := by rw [Hid, insB_front (shelf_front HS.out i hil), ← drop_next hil]
      have hl100 : (l.drop (i + 1)).length ≤ 100 := by simp; omega
      generalize hx : l[i] = x at *
      clear hc c0 c1 c2 c3 c4 hx
      rw [hsub]
      go_wp2_with (go_at_call 20; refine (stAdd_any _ _ _ x _ HQ.out hl100).mono ?_; rintro e w2 ⟨rfl, hs2, hb2, _⟩; rw [HK.out] at hs2 ⊢; rw [if_pos rfl, HI.out] at hs2; have H1 := Hid.mk2 hs2; have H2 := Hid.mk2 hb2; clear hs2 hb2)
      go_roundw
      case rel => exact ⟨i, by omega, by go_num, H1.out, HBL.out.trans (H2.out.below (Nat.le_refl _) hbs)⟩
      case measure => simp [intOf]
end Go.Proofs.YtnnbhebklnappaaGreatDoor
