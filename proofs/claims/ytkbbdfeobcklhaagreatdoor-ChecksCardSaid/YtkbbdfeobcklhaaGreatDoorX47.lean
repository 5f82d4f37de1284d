/-
  The document's Check, called on any text: the errors and their places.
-/
import Derived.Test.YtkbbdfeobcklhaaGreatDoorX46
set_option linter.unusedVariables false
set_option linter.unusedSimpArgs false
namespace Go.Proofs.YtkbbdfeobcklhaaGreatDoor
open Go.RowKit Go.Deep

/-- What the document's Check answers for a policy that was read: the error, the place. -/
def checkOf (L R : List RSt) : Int × Int := match namesGo [] [] [] (toksL (L ++ R)) with
  | some p => (4, p)
  | none => match wrongT L R with
    | some p => (5, p)
    | none => if bigT L R then (6, 0) else (0, 0)
structure ReadAs (s : Txt) (L R : List RSt) : Prop where
  fine : tokened s = .fine (toksL (L ++ R))
  lets : isLetL L
  rules : isRuleL R
  wf : ∀ x ∈ L ++ R, x.wf
theorem filter_lets {L R : List RSt} (hL : isLetL L) (hR : isRuleL R) : (L ++ R).filter RSt.isLet = L ∧ (L ++ R).filter (fun s => !s.isLet) = R := by
  constructor
  · rw [List.filter_append, List.filter_eq_self.2 hL, List.filter_eq_nil_iff.2 (fun a ha => by rw [hR a ha]; simp), List.append_nil]
  · rw [List.filter_append, List.filter_eq_nil_iff.2 (fun a ha => by rw [hL a ha]; simp), List.filter_eq_self.2 (fun a ha => by rw [hR a ha]; rfl), List.nil_append]
theorem fine_facts {s : Txt} {l : List RTok} (h : tokened s = .fine l) : (∀ t ∈ l, t.text ≠ []) := by
  unfold tokened at h
  split at h
  · cases h
  · cases ht : toksR s 0 with
    | error p => rw [ht] at h; cases h
    | ok l' =>
      rw [ht] at h
      simp only at h
      cases hg : goS ⟨0, 0, 0⟩ l' with
      | error p => rw [hg] at h; cases h
      | ok q =>
        rw [hg] at h
        simp only at h
        split at h
        · cases h
          exact toks_nonempty ht
        · cases h
theorem mem_toksL {L : List RSt} {x : RSt} (hx : x ∈ L) : (∀ t ∈ x.body, t ∈ toksL L) ∧ x.body.length ≤ (toksL L).length := by
  induction L with
  | nil => cases hx
  | cons a r ih =>
    rw [toksL_cons]
    simp only [List.mem_cons] at hx
    rcases hx with rfl | hx
    · exact ⟨fun t ht => by simp [RSt.toks, ht], by simp only [RSt.toks, List.length_append]; omega⟩
    · exact ⟨fun t ht => by simp [(ih hx).1 t ht], by have := (ih hx).2; simp; omega⟩

abbrev pol0 : Obj := .cells #[.slice none 0 0, .slice none 0 0, .slice none 0 0] 44
theorem two_blk {w w1 : World} (h : Below ((w.alloc pol0).alloc pol0).heap.size ((w.alloc pol0).alloc pol0) w1) :
    (w1.cell? ⟨w.heap.size, 0, none⟩ = some (.slice none 0 0) ∧ w1.cell? ⟨w.heap.size, 1, none⟩ = some (.slice none 0 0) ∧ w1.cell? ⟨w.heap.size, 2, none⟩ = some (.slice none 0 0)) ∧
    (w1.cell? ⟨w.heap.size + 1, 0, none⟩ = some (.slice none 0 0) ∧ w1.cell? ⟨w.heap.size + 1, 1, none⟩ = some (.slice none 0 0) ∧ w1.cell? ⟨w.heap.size + 1, 2, none⟩ = some (.slice none 0 0)) ∧
    (w1.frozen? ⟨w.heap.size, 0, none⟩ = false ∧ w1.frozen? ⟨w.heap.size, 1, none⟩ = false ∧ w1.frozen? ⟨w.heap.size, 2, none⟩ = false) ∧ Below w.heap.size w w1 ∧ w.heap.size + 2 ≤ w1.heap.size := by
  have b0 : Blk w1 w.heap.size #[.slice none 0 0, .slice none 0 0, .slice none 0 0] 44 := ((Blk.new w _ _).alloc pol0).below h (by simp; omega)
  have b1 : Blk w1 (w.heap.size + 1) #[.slice none 0 0, .slice none 0 0, .slice none 0 0] 44 := by
    have := Blk.new (w.alloc pol0) #[.slice none 0 0, .slice none 0 0, .slice none 0 0] 44
    rw [World.size_alloc] at this
    exact this.below h (by simp)
  exact ⟨⟨b0.cell 0, b0.cell 1, b0.cell 2⟩, ⟨b1.cell 0, b1.cell 1, b1.cell 2⟩, ⟨b0.free 0, b0.free 1, b0.free 2⟩, (((Below.refl w.heap.size w).alloc (Nat.le_refl _) pol0).alloc (by simp) pol0).trans (h.mono (by simp; omega)), by have := h.size; simp at this; omega⟩
theorem three_set {w w1 : World} (h : Below w.heap.size w w1) (a b c : Value) : Below w.heap.size w (((w1.setCell ⟨w.heap.size, 0, none⟩ a).setCell ⟨w.heap.size, 1, none⟩ b).setCell ⟨w.heap.size, 2, none⟩ c) :=
  ((h.setCell (p := ⟨w.heap.size, 0, none⟩) (Nat.le_refl _) a).setCell (p := ⟨w.heap.size, 1, none⟩) (Nat.le_refl _) b).setCell (p := ⟨w.heap.size, 2, none⟩) (Nat.le_refl _) c

set_option maxHeartbeats 1000000 in
theorem Check_bad (s : ByteArray) (w : World) (c : Int) (p : Nat) (hb : tokened s.toList = .bad c p) (hc : c ≠ 0) :
    Calls Tryz.prog 16 #[.string s] w fun e w' => (∃ a1 l1 c1 a2 l2 c2 a3 l3 c3, e = .returned (.tuple #[.agg #[.slice a1 l1 c1, .slice a2 l2 c2, .slice a3 l3 c3], .int .i64 c, .int .i64 p])) ∧ Below w.heap.size w w' := by
  have HB : Hid (tokened s.toList = .bad c p) := hb
  clear hb
  go_enter Tryz.func16, Tryz.ntmps16
  go_wp2_with (go_at_call 29; refine (Tokened_any s _).mono ?_; rintro e w1 ⟨hb1, ⟨l, v, htk, _⟩ | ⟨c', p', htk, rfl⟩⟩; (rw [HB.out] at htk; cases htk); rw [HB.out] at htk; cases htk; obtain ⟨⟨a0, a1, a2⟩, ⟨b0, b1, b2⟩, ⟨f0, f1, f2⟩, hbw, hsz⟩ := two_blk hb1)
  exact bodyPost_ret (v := .tuple #[.agg #[.slice none 0 0, .slice none 0 0, .slice none 0 0], .int .i64 c, .int .i64 p]) (by simp [results, Tryz.results16, go_sem, a0, a1, a2]) rfl ⟨⟨_, _, _, _, _, _, _, _, _, rfl⟩, three_set hbw _ _ _⟩

theorem RdO.below {w w' : World} {v : Value} (hb : Below w.heap.size w w') : ∀ {o : Option Tr}, RdO w v o → RdO w' v o
  | none, h => h
  | some _, h => Reads.below h hb
theorem StmOk.below {w w' : World} (hb : Below w.heap.size w w') (s : Stm) (r : RSt) (h : StmOk w s r) : StmOk w' s r := by
  rcases r.cases with ⟨kw, name, eq, e, semi, rfl⟩ | ⟨wh, act, sc, semi, rfl⟩
  · exact ⟨h.1, Reads.below h.2.1 hb, h.2.2⟩
  · exact ⟨h.1, h.2.1, RdO.below hb h.2.2.1, RdO.below hb h.2.2.2⟩
theorem two_blk' {w w1 w2 : World} (h : Below ((w.alloc pol0).alloc pol0).heap.size ((w.alloc pol0).alloc pol0) w1) (h2 : Below w1.heap.size w1 w2) : Below ((w.alloc pol0).alloc pol0).heap.size ((w.alloc pol0).alloc pol0) w2 := h.trans (h2.mono h.size)

theorem len_toksL (L : List RSt) : L.length ≤ (toksL L).length := by
  induction L with
  | nil => simp
  | cons a r ih => rw [toksL_cons, List.length_append, a.toks_length, List.length_cons]; omega
theorem lens {L R : List RSt} (h : (toksL (L ++ R)).length ≤ 400) : L.length ≤ 400 ∧ R.length ≤ 400 := by
  have h1 := len_toksL L
  have h2 := len_toksL R
  rw [toksL_append, List.length_append] at h
  omega
theorem all_ok {s : Txt} {L R : List RSt} (h : ReadAs s L R) (htx : ∀ t ∈ toksL (L ++ R), t.text ≠ []) (hl : (toksL (L ++ R)).length ≤ 400) : ∀ x ∈ L ++ R, x.short ∧ x.wf ∧ x.texts := by
  intro x hx
  have := mem_toksL hx
  exact ⟨Nat.le_trans this.2 hl, h.wf x hx, fun t ht => htx t (this.1 t ht)⟩
set_option maxHeartbeats 1000000 in
theorem Check_fine (s : ByteArray) (w : World) (L R : List RSt) (h : ReadAs s.toList L R) (hne : 0 < (toksL (L ++ R)).length) :
    Calls Tryz.prog 16 #[.string s] w fun e w' => (∃ a1 l1 c1 a2 l2 c2 a3 l3 c3, e = .returned (.tuple #[.agg #[.slice a1 l1 c1, .slice a2 l2 c2, .slice a3 l3 c3], .int .i64 (checkOf L R).1, .int .i64 (checkOf L R).2])) ∧ Below w.heap.size w w' := by
  have HF : Hid (ReadAs s.toList L R) := h
  have htx := fine_facts h.fine
  have HFL := filter_lets h.lets h.rules
  have HFLH : Hid ((L ++ R).filter RSt.isLet = L ∧ (L ++ R).filter (fun s => !s.isLet) = R) := HFL
  have HTX : Hid (∀ t ∈ toksL (L ++ R), t.text ≠ []) := htx
  clear h htx HFL
  cases hn : namesGo [] [] [] (toksL (L ++ R)) with
  | some q =>
    have hck : checkOf L R = (4, (q : Int)) := by simp only [checkOf, hn]
    have HN : Hid (namesGo [] [] [] (toksL (L ++ R)) = some q) := hn
    rw [hck]
    clear hn hck
    go_enter Tryz.func16, Tryz.ntmps16
    go_wp2_with (first | (go_at_call 29; refine (Tokened_any s _).mono ?_; rintro e w1 ⟨hb1, ⟨l, v, htk, hl4, rfl, hown⟩ | ⟨c', p', htk, _⟩⟩; rotate_left; (rw [HF.out.fine] at htk; cases htk); rw [HF.out.fine] at htk; cases htk; have HRD : Hid (Reads w1 v (toksL (L ++ R)).length (cellsR (toksL (L ++ R)))) := reads_of_own hown) | (go_at_call 35; refine (names_ref _ HTX.out _ _ hne hl4 HRD.out).mono ?_; rintro e w2 ⟨rfl, hb2⟩; rw [HN.out]; simp only [placeV]; obtain ⟨⟨a0, a1, a2⟩, ⟨b0, b1, b2⟩, ⟨f0, f1, f2⟩, hbw, hsz⟩ := two_blk (two_blk' hb1 hb2)))
    exact bodyPost_ret (v := .tuple #[.agg #[.slice none 0 0, .slice none 0 0, .slice none 0 0], .int .i64 4, .int .i64 q]) (by simp [results, Tryz.results16, go_sem, a0, a1, a2]) rfl ⟨⟨_, _, _, _, _, _, _, _, _, rfl⟩, three_set hbw _ _ _⟩
  | none =>
    have HN : Hid (namesGo [] [] [] (toksL (L ++ R)) = none) := hn
    clear hn
    cases hwr : wrongT L R with
    | some q =>
      have hck : checkOf L R = (5, (q : Int)) := by simp only [checkOf, HN.out, hwr]
      have HWR : Hid (wrongT L R = some q) := hwr
      rw [hck]
      clear hwr hck
      go_enter Tryz.func16, Tryz.ntmps16
      go_wp2_with (first | (go_at_call 29; refine (Tokened_any s _).mono ?_; rintro e w1 ⟨hb1, ⟨l, v, htk, hl4, rfl, hown⟩ | ⟨c', p', htk, _⟩⟩; rotate_left; (rw [HF.out.fine] at htk; cases htk); rw [HF.out.fine] at htk; cases htk; have HRD : Hid (Reads w1 v (toksL (L ++ R)).length (cellsR (toksL (L ++ R)))) := reads_of_own hown; have HLN := lens hl4; have HALL : Hid (∀ x ∈ L ++ R, x.short ∧ x.wf ∧ x.texts) := all_ok HF.out HTX.out hl4) | (go_at_call 35; refine (names_ref _ HTX.out _ _ hne hl4 HRD.out).mono ?_; rintro e w2 ⟨rfl, hb2⟩; rw [HN.out]; simp only [placeV]; have HRD2 : Hid (Reads w2 v (toksL (L ++ R)).length (cellsR (toksL (L ++ R)))) := HRD.out.below hb2) | (go_at_call 30; refine (Statements_any (L ++ R) HF.out.wf _ _ hne hl4 HRD2.out).mono ?_; rintro e w3 ⟨ls, rs, lv, rv, rfl, ho1, ho2, hal, har, hb3⟩; rw [HFLH.out.1] at hal; rw [HFLH.out.2] at har; have HAL : Hid (All2 (StmOk w3) ls L) := hal.mono (StmOk.below hb3); have HAR : Hid (All2 (StmOk w3) rs R) := har.mono (StmOk.below hb3); have HLV : Hid (Reads w3 lv ls.length (cellsS ls)) := reads_of_own ho1; have HRV : Hid (Reads w3 rv rs.length (cellsS rs)) := reads_of_own ho2; have hls4 : ls.length ≤ 400 := (by rw [HAL.out.len]; exact HLN.1); have hrs4 : rs.length ≤ 400 := (by rw [HAR.out.len]; exact HLN.2); clear hal har ho1 ho2) | (go_at_call 36; refine (wrong_any ls rs L R HF.out.lets HF.out.rules (fun x hx => HALL.out x (List.mem_append_left _ hx)) (fun x hx => HALL.out x (List.mem_append_right _ hx)) _ _ _ HAL.out HAR.out hls4 hrs4 HLV.out HRV.out).mono ?_; rintro e w4 ⟨rfl, hb4⟩; rw [HWR.out]; simp only [placeV]; obtain ⟨⟨a0, a1, a2⟩, ⟨b0, b1, b2⟩, ⟨f0, f1, f2⟩, hbw, hsz⟩ := two_blk (two_blk' (two_blk' (two_blk' hb1 hb2) hb3) hb4)))
      exact bodyPost_ret (v := .tuple #[.agg #[.slice none 0 0, .slice none 0 0, .slice none 0 0], .int .i64 5, .int .i64 q]) (by simp [results, Tryz.results16, go_sem, a0, a1, a2]) rfl ⟨⟨_, _, _, _, _, _, _, _, _, rfl⟩, three_set hbw _ _ _⟩
    | none =>
      have HWR : Hid (wrongT L R = none) := hwr
      clear hwr
      cases hbg : bigT L R
      · have hck : checkOf L R = (0, 0) := by simp only [checkOf, HN.out, HWR.out, hbg]; rfl
        have HBG : Hid (bigT L R = false) := hbg
        rw [hck]
        clear hbg hck
        go_enter Tryz.func16, Tryz.ntmps16
        go_wp2_with (first | (go_at_call 29; refine (Tokened_any s _).mono ?_; rintro e w1 ⟨hb1, ⟨l, v, htk, hl4, rfl, hown⟩ | ⟨c', p', htk, _⟩⟩; rotate_left; (rw [HF.out.fine] at htk; cases htk); rw [HF.out.fine] at htk; cases htk; have HRD : Hid (Reads w1 v (toksL (L ++ R)).length (cellsR (toksL (L ++ R)))) := reads_of_own hown; have HLN := lens hl4; have HALL : Hid (∀ x ∈ L ++ R, x.short ∧ x.wf ∧ x.texts) := all_ok HF.out HTX.out hl4) | (go_at_call 35; refine (names_ref _ HTX.out _ _ hne hl4 HRD.out).mono ?_; rintro e w2 ⟨rfl, hb2⟩; rw [HN.out]; simp only [placeV]; have HRD2 : Hid (Reads w2 v (toksL (L ++ R)).length (cellsR (toksL (L ++ R)))) := HRD.out.below hb2) | (go_at_call 30; refine (Statements_any (L ++ R) HF.out.wf _ _ hne hl4 HRD2.out).mono ?_; rintro e w3 ⟨ls, rs, lv, rv, rfl, ho1, ho2, hal, har, hb3⟩; rw [HFLH.out.1] at hal; rw [HFLH.out.2] at har; have HAL : Hid (All2 (StmOk w3) ls L) := hal.mono (StmOk.below hb3); have HAR : Hid (All2 (StmOk w3) rs R) := har.mono (StmOk.below hb3); have HLV : Hid (Reads w3 lv ls.length (cellsS ls)) := reads_of_own ho1; have HRV : Hid (Reads w3 rv rs.length (cellsS rs)) := reads_of_own ho2; have hls4 : ls.length ≤ 400 := (by rw [HAL.out.len]; exact HLN.1); have hrs4 : rs.length ≤ 400 := (by rw [HAR.out.len]; exact HLN.2); clear hal har ho1 ho2; obtain ⟨la, lc, rfl⟩ := HLV.out.shape; obtain ⟨ra, rc, rfl⟩ := HRV.out.shape) | (go_at_call 36; refine (wrong_any ls rs L R HF.out.lets HF.out.rules (fun x hx => HALL.out x (List.mem_append_left _ hx)) (fun x hx => HALL.out x (List.mem_append_right _ hx)) _ _ _ HAL.out HAR.out hls4 hrs4 HLV.out HRV.out).mono ?_; rintro e w4 ⟨rfl, hb4⟩; rw [HWR.out]; simp only [placeV]) | (go_at_call 37; refine (big_any ls rs L R HF.out.lets HF.out.rules (fun x hx => (HALL.out x (List.mem_append_left _ hx)).1) (fun x hx => (HALL.out x (List.mem_append_right _ hx)).1) _ _ _ (HAL.out.mono (StmOk.below hb4)) (HAR.out.mono (StmOk.below hb4)) hls4 hrs4 (HLV.out.below hb4) (HRV.out.below hb4)).mono ?_; rintro e w5 ⟨rfl, hb5⟩; rw [HBG.out]; obtain ⟨⟨a0, a1, a2⟩, ⟨b0, b1, b2⟩, ⟨f0, f1, f2⟩, hbw, hsz⟩ := two_blk (two_blk' (two_blk' (two_blk' (two_blk' hb1 hb2) hb3) hb4) hb5)))
        exact bodyPost_ret (v := .tuple #[.agg #[.slice la ls.length lc, .slice none 0 0, .slice ra rs.length rc], .int .i64 0, .int .i64 0]) (by simp [results, Tryz.results16, go_sem, a0, a1, a2]) rfl ⟨⟨_, _, _, _, _, _, _, _, _, rfl⟩, three_set hbw _ _ _⟩
      · have hck : checkOf L R = (6, 0) := by simp only [checkOf, HN.out, HWR.out, hbg]; rfl
        have HBG : Hid (bigT L R = true) := hbg
        rw [hck]
        clear hbg hck
        go_enter Tryz.func16, Tryz.ntmps16
        go_wp2_with (first | (go_at_call 29; refine (Tokened_any s _).mono ?_; rintro e w1 ⟨hb1, ⟨l, v, htk, hl4, rfl, hown⟩ | ⟨c', p', htk, _⟩⟩; rotate_left; (rw [HF.out.fine] at htk; cases htk); rw [HF.out.fine] at htk; cases htk; have HRD : Hid (Reads w1 v (toksL (L ++ R)).length (cellsR (toksL (L ++ R)))) := reads_of_own hown; have HLN := lens hl4; have HALL : Hid (∀ x ∈ L ++ R, x.short ∧ x.wf ∧ x.texts) := all_ok HF.out HTX.out hl4) | (go_at_call 35; refine (names_ref _ HTX.out _ _ hne hl4 HRD.out).mono ?_; rintro e w2 ⟨rfl, hb2⟩; rw [HN.out]; simp only [placeV]; have HRD2 : Hid (Reads w2 v (toksL (L ++ R)).length (cellsR (toksL (L ++ R)))) := HRD.out.below hb2) | (go_at_call 30; refine (Statements_any (L ++ R) HF.out.wf _ _ hne hl4 HRD2.out).mono ?_; rintro e w3 ⟨ls, rs, lv, rv, rfl, ho1, ho2, hal, har, hb3⟩; rw [HFLH.out.1] at hal; rw [HFLH.out.2] at har; have HAL : Hid (All2 (StmOk w3) ls L) := hal.mono (StmOk.below hb3); have HAR : Hid (All2 (StmOk w3) rs R) := har.mono (StmOk.below hb3); have HLV : Hid (Reads w3 lv ls.length (cellsS ls)) := reads_of_own ho1; have HRV : Hid (Reads w3 rv rs.length (cellsS rs)) := reads_of_own ho2; have hls4 : ls.length ≤ 400 := (by rw [HAL.out.len]; exact HLN.1); have hrs4 : rs.length ≤ 400 := (by rw [HAR.out.len]; exact HLN.2); clear hal har ho1 ho2) | (go_at_call 36; refine (wrong_any ls rs L R HF.out.lets HF.out.rules (fun x hx => HALL.out x (List.mem_append_left _ hx)) (fun x hx => HALL.out x (List.mem_append_right _ hx)) _ _ _ HAL.out HAR.out hls4 hrs4 HLV.out HRV.out).mono ?_; rintro e w4 ⟨rfl, hb4⟩; rw [HWR.out]; simp only [placeV]) | (go_at_call 37; refine (big_any ls rs L R HF.out.lets HF.out.rules (fun x hx => (HALL.out x (List.mem_append_left _ hx)).1) (fun x hx => (HALL.out x (List.mem_append_right _ hx)).1) _ _ _ (HAL.out.mono (StmOk.below hb4)) (HAR.out.mono (StmOk.below hb4)) hls4 hrs4 (HLV.out.below hb4) (HRV.out.below hb4)).mono ?_; rintro e w5 ⟨rfl, hb5⟩; rw [HBG.out]; obtain ⟨⟨a0, a1, a2⟩, ⟨b0, b1, b2⟩, ⟨f0, f1, f2⟩, hbw, hsz⟩ := two_blk (two_blk' (two_blk' (two_blk' (two_blk' hb1 hb2) hb3) hb4) hb5)))
        exact bodyPost_ret (v := .tuple #[.agg #[.slice none 0 0, .slice none 0 0, .slice none 0 0], .int .i64 6, .int .i64 0]) (by simp [results, Tryz.results16, go_sem, a0, a1, a2]) rfl ⟨⟨_, _, _, _, _, _, _, _, _, rfl⟩, three_set hbw _ _ _⟩
end Go.Proofs.YtkbbdfeobcklhaaGreatDoor
