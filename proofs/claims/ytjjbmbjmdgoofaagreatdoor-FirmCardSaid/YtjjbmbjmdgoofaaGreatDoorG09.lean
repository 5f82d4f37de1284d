/-
  The program's reader: a LET.
-/
import Derived.Test.YtjjbmbjmdgoofaaGreatDoorG08
import Derived.Deep.RegionWith
set_option linter.unusedVariables false
set_option linter.unusedSimpArgs false
namespace Go.Proofs.YtjjbmbjmdgoofaaGreatDoor
open Go.RowKit Go.Deep
theorem Und.any {B : Nat} {S : RS} {w wr : World} {p : Spot} {l : List RTok} {G : Nat → List PNode → Prop} (h : Und B S w wr p l G) : ∃ S', RdAt wr B S' ∧ S'.lv = S.lv ∧ S'.rv = S.rv ∧ S'.ls = S.ls ∧ S'.rs = S.rs ∧ ((∃ j nv ns, G j ns ∧ S' = { S with k := S.k + j, nv := nv, ns := ns }) ∨ (∃ j nv ns, BadS p l j ∧ S' = { S with k := S.k + j, f := true, nv := nv, ns := ns })) := by
  rcases h.st with ⟨j, nv, ns, hG, hR⟩ | ⟨j, nv, ns, hB, hn, hR⟩
  · exact ⟨_, hR, rfl, rfl, rfl, rfl, .inl ⟨j, nv, ns, hG, rfl⟩⟩
  · exact ⟨_, hR, rfl, rfl, rfl, rfl, .inr ⟨j, nv, ns, hB, rfl⟩⟩
theorem cellsLt_snoc (l : List PLet) (n : PLet) : cellsLt (l ++ [n]) = cellsLt l ++ cellL n := by simp [cellsLt]
theorem cellsU_snoc (l : List PRule) (n : PRule) : cellsU (l ++ [n]) = cellsU l ++ cellU n := by simp [cellsU]
theorem one_let (n : PLet) : ∀ u ∈ cellL n, u.oneCell' = true := by
  intro u hu
  simp [cellL] at hu
  rcases hu with rfl | rfl | rfl | rfl | rfl | rfl <;> rfl
theorem one_rule (n : PRule) : ∀ u ∈ cellU n, u.oneCell' = true := by
  intro u hu
  simp [cellU] at hu
  rcases hu with rfl | rfl | rfl | rfl | rfl | rfl | rfl | rfl <;> rfl
theorem rd_let {w w3 : World} {B : Nat} {S : RS} {n : PLet} {v : Value} (h : RdAt w B S) (ho : w3.ownsRow (B + 1) 120 6 v (S.ls.length + 1) (cellsLt S.ls ++ cellL n)) (hg : w.grownBy w3 S.lv.ownBlock) :
    RdAt (w3.setCell ⟨B, 5, none⟩ v) B { S with lv := v, ls := S.ls ++ [n] } ∧ Below B w (w3.setCell ⟨B, 5, none⟩ v) := by
  have hneB : some B ≠ S.lv.ownBlock := by intro e; have := (h.olt.lt B e.symm).1; omega
  have hb : Blk w3 B #[S.tv, .int .i64 S.k, .int .i64 S.d, .bool S.f, S.nv, S.lv, S.rv] 112 := by
    unfold Blk; rw [hg.block B h.blk.lt hneB]; exact h.blk
  have hlt := h.blk.lt
  refine ⟨⟨hb.set 5 v, own_set (h.otk.kept hg (own_ne h.otk h.olt (by decide))) hb (by decide), own_set (h.ond.kept hg (own_ne h.ond h.olt (by decide))) hb (by decide), ?_, own_set (h.orl.kept hg (own_ne h.orl h.olt (by decide))) hb (by decide), h.kt, h.tl, h.nk, h.dl⟩, ?_⟩
  · have := own_set (i := 5) (u := v) ho hb (by decide)
    simpa [cellsLt_snoc] using this
  · exact ((Below.refl B w).grown hg (by omega) (fun k hk => by have := (h.olt.lt k hk).1; omega)).setCell (p := ⟨B, 5, none⟩) (Nat.le_refl _) v
theorem rd_rule {w w3 : World} {B : Nat} {S : RS} {n : PRule} {v : Value} (h : RdAt w B S) (ho : w3.ownsRow (B + 1) 123 8 v (S.rs.length + 1) (cellsU S.rs ++ cellU n)) (hg : w.grownBy w3 S.rv.ownBlock) :
    RdAt (w3.setCell ⟨B, 6, none⟩ v) B { S with rv := v, rs := S.rs ++ [n] } ∧ Below B w (w3.setCell ⟨B, 6, none⟩ v) := by
  have hneB : some B ≠ S.rv.ownBlock := by intro e; have := (h.orl.lt B e.symm).1; omega
  have hb : Blk w3 B #[S.tv, .int .i64 S.k, .int .i64 S.d, .bool S.f, S.nv, S.lv, S.rv] 112 := by
    unfold Blk; rw [hg.block B h.blk.lt hneB]; exact h.blk
  have hlt := h.blk.lt
  refine ⟨⟨hb.set 6 v, own_set (h.otk.kept hg (own_ne h.otk h.orl (by decide))) hb (by decide), own_set (h.ond.kept hg (own_ne h.ond h.orl (by decide))) hb (by decide), own_set (h.olt.kept hg (own_ne h.olt h.orl (by decide))) hb (by decide), ?_, h.kt, h.tl, h.nk, h.dl⟩, ?_⟩
  · have := own_set (i := 6) (u := v) ho hb (by decide)
    simpa [cellsU_snoc] using this
  · exact ((Below.refl B w).grown hg (by omega) (fun k hk => by have := (h.orl.lt k hk).1; omega)).setCell (p := ⟨B, 6, none⟩) (Nat.le_refl _) v
theorem Tryz.infoLet : (Tryz.prog.info? 120).map (fun i => (i.zero, i.size, i.bytes)) = some (some (.agg #[.int .i64 0, .int .i64 0, .string ⟨#[]⟩, .int .i64 0, .int .i64 0, .int .i64 0]), 6, 56) := by kernel_rfl
theorem Tryz.infoRule : (Tryz.prog.info? 123).map (fun i => (i.zero, i.size, i.bytes)) = some (some (.agg #[.bool false, .int .i64 0, .int .i64 0, .int .i64 0, .bool false, .int .i64 0, .int .i64 0, .int .i64 0]), 8, 64) := by kernel_rfl
def LetOut (B : Nat) (S : RS) (l : List RTok) (w w' : World) : Prop :=
  Below B w w' ∧
  ((∃ s rest nv lv, GotS ⟨0, 0, 0⟩ l s rest ⟨0, 0, 0⟩ ∧ s.isLet = true ∧ RdAt w' B { S with k := S.k + s.toks.length, nv := nv, lv := lv, ns := S.ns ++ s.nodes S.ns.length, ls := S.ls ++ s.lets S.ns.length }) ∨
   (∃ j nv lv ns n, BadS ⟨0, 0, 0⟩ l j ∧ RdAt w' B { S with k := S.k + j, f := true, nv := nv, lv := lv, ns := ns, ls := S.ls ++ [n] }))
def G2 (S : RS) (l : List RTok) (tk : RTok) (j : Nat) (ns : List PNode) : Prop := j = 2 ∧ ns = S.ns ∧ l[1]? = some tk ∧ nameT tk.text = true
def G3 (S : RS) (l : List RTok) (tk : RTok) (j : Nat) (ns : List PNode) : Prop := j = 3 ∧ ns = S.ns ∧ l[1]? = some tk ∧ nameT tk.text = true ∧ ∃ eq, l[2]? = some eq ∧ eq.text = cEq
def G4 (S : RS) (l : List RTok) (tk : RTok) (pe : PExp) (j : Nat) (ns : List PNode) : Prop := l[1]? = some tk ∧ nameT tk.text = true ∧ (∃ eq, l[2]? = some eq ∧ eq.text = cEq) ∧ ∃ e rest, GotO 0 (l.drop 3) e rest ∧ stops 1 rest ∧ j = 3 + e.toks.length ∧ ns = S.ns ++ e.flat S.ns.length ∧ pe = layE S.ns.length e
def G5 (S : RS) (l : List RTok) (tk : RTok) (pe : PExp) (j : Nat) (ns : List PNode) : Prop := ∃ s rest, GotS ⟨0, 0, 0⟩ l s rest ⟨0, 0, 0⟩ ∧ s.isLet = true ∧ j = s.toks.length ∧ ns = S.ns ++ s.nodes S.ns.length ∧ s.lets S.ns.length = [⟨tk, pe⟩]
theorem l_three {kw tk eq : RTok} {l1 : List RTok} (h1 : (kw :: l1)[1]? = some tk) (h2 : (kw :: l1)[2]? = some eq) : ∃ r, l1 = tk :: eq :: r ∧ (kw :: l1).drop 3 = r := by
  rcases l1 with _ | ⟨a, _ | ⟨b, r⟩⟩
  · simp at h1
  · simp at h2
  · simp at h1 h2
    subst h1 h2
    exact ⟨r, rfl, rfl⟩
theorem name_step (S : RS) {kw tk : RTok} {l1 : List RTok} (hk : kw.text = cLet) (hm : ∀ t ∈ kw :: l1, mayT t.text = true) : ∀ j ns, ((j = 1 ∧ ns = S.ns) ∧ ∀ a, (kw :: l1)[j]? = some a → a = tk) → j ≤ (kw :: l1).length ∧ ns.length ≤ S.ns.length + j ∧ (∀ a, (kw :: l1)[j]? = some a → kindP a.text = 2 → G2 S (kw :: l1) tk (j + 1) ns) ∧ ((∀ a, (kw :: l1)[j]? = some a → kindP a.text ≠ 2) → BadS ⟨0, 0, 0⟩ (kw :: l1) j) := by
  rintro j ns ⟨⟨rfl, rfl⟩, ht⟩
  refine ⟨by simp, by omega, fun a ha hka => ?_, fun hno => ?_⟩
  · have := ht a ha
    subst this
    exact ⟨rfl, rfl, ha, (kindOf _ (hm a (List.mem_of_getElem? ha))).kname.1 hka⟩
  · refine let_bad_name hk fun a r e => ?_
    subst e
    have h1 := hno a rfl
    cases h : nameT a.text with
    | false => rfl
    | true => exact absurd ((kindOf _ (hm a (by simp))).kname.2 h) h1
theorem eq_step (S : RS) {kw tk : RTok} {l1 : List RTok} (hk : kw.text = cLet) (hm : ∀ t ∈ kw :: l1, mayT t.text = true) : ∀ j ns, G2 S (kw :: l1) tk j ns → j ≤ (kw :: l1).length ∧ ns.length ≤ S.ns.length + j ∧ (∀ a, (kw :: l1)[j]? = some a → kindP a.text = 23 → G3 S (kw :: l1) tk (j + 1) ns) ∧ ((∀ a, (kw :: l1)[j]? = some a → kindP a.text ≠ 23) → BadS ⟨0, 0, 0⟩ (kw :: l1) j) := by
  rintro j ns ⟨rfl, rfl, h1, h2⟩
  have hlen : 1 < (kw :: l1).length := (List.getElem?_eq_some_iff.1 h1).1
  refine ⟨by omega, by omega, fun a ha hka => ⟨rfl, rfl, h1, h2, a, ha, (kindOf _ (hm a (List.mem_of_getElem? ha))).keq.1 hka⟩, fun hno => ?_⟩
  rcases l1 with _ | ⟨b, r⟩
  · simp at hlen
  · simp at h1
    subst h1
    refine let_bad_eq hk h2 fun a r' e => ?_
    subst e
    exact fun h => hno a rfl ((kindOf _ (hm a (by simp))).keq.2 h)
theorem expr_step (S : RS) {kw tk : RTok} {l1 : List RTok} (hk : kw.text = cLet) : ∀ j ns, G3 S (kw :: l1) tk j ns → j ≤ (kw :: l1).length ∧ ns.length ≤ S.ns.length + j ∧ (∀ t rest, GotO 0 ((kw :: l1).drop j) t rest → stops 1 rest → G4 S (kw :: l1) tk (layE ns.length t) (j + t.toks.length) (ns ++ t.flat ns.length)) ∧ (∀ i, BadV 0 ((kw :: l1).drop j) i → BadS ⟨0, 0, 0⟩ (kw :: l1) (j + i)) := by
  rintro j ns ⟨rfl, rfl, h1, h2, eq, h3, h4⟩
  obtain ⟨r, rfl, hd⟩ := l_three h1 h3
  refine ⟨by simp, by omega, fun t rest g1 g2 => ⟨h1, h2, ⟨eq, h3, h4⟩, t, rest, g1, g2, rfl, rfl, rfl⟩, fun i hb => ?_⟩
  rw [hd] at hb
  rw [Nat.add_comm]
  exact let_bad_expr hk h2 h4 hb
theorem semi_step (S : RS) {kw tk : RTok} {l1 : List RTok} (hk : kw.text = cLet) (hm : ∀ t ∈ kw :: l1, mayT t.text = true) (pe : PExp) : ∀ j ns, G4 S (kw :: l1) tk pe j ns → j ≤ (kw :: l1).length ∧ ns.length ≤ S.ns.length + j ∧ (∀ a, (kw :: l1)[j]? = some a → kindP a.text = 22 → G5 S (kw :: l1) tk pe (j + 1) ns) ∧ ((∀ a, (kw :: l1)[j]? = some a → kindP a.text ≠ 22) → BadS ⟨0, 0, 0⟩ (kw :: l1) j) := by
  rintro j ns ⟨h1, h2, ⟨eq, h3, h4⟩, e, rest, g1, g2, rfl, rfl, rfl⟩
  obtain ⟨r, rfl, hd⟩ := l_three h1 h3
  rw [hd] at g1
  have hr := g1.eq
  have hn := e.num_le g1.wf
  have hat : ∀ a, (kw :: tk :: eq :: r)[3 + e.toks.length]? = some a → ∃ rest', rest = a :: rest' := by
    intro a ha
    rw [show (kw :: tk :: eq :: r)[3 + e.toks.length]? = r[e.toks.length]? by rw [Nat.add_comm]; rfl, hr, List.getElem?_append_right (Nat.le_refl _), Nat.sub_self] at ha
    cases rest with
    | nil => simp at ha
    | cons b rest' => simp at ha; subst ha; exact ⟨rest', rfl⟩
  refine ⟨by rw [hr]; simp; omega, by rw [List.length_append, e.flat_len g1.wf]; omega, fun a ha hka => ?_, fun hno => ?_⟩
  · obtain ⟨rest', rfl⟩ := hat a ha
    have hs : a.text = cSemi := (kindOf _ (hm a (List.mem_of_getElem? ha))).ksemi.1 hka
    have hgot := let_got hk h2 h4 g1 hs
    refine ⟨_, rest', hgot, rfl, ?_, rfl, rfl⟩
    rw [RSt.toks_length, RSt.body_let]
    simp
    omega
  · rw [Nat.add_comm]
    refine let_bad_end hk h2 h4 g1 g2 fun a r' e' => ?_
    subst e'
    refine fun h => hno a ?_ ((kindOf _ (hm a ?_)).ksemi.2 h)
    · rw [show (kw :: tk :: eq :: r)[3 + e.toks.length]? = r[e.toks.length]? by rw [Nat.add_comm]; rfl, hr, List.getElem?_append_right (Nat.le_refl _), Nat.sub_self]; rfl
    · rw [hr]; simp
end Go.Proofs.YtjjbmbjmdgoofaaGreatDoor
namespace Go.Proofs.YtjjbmbjmdgoofaaGreatDoor
open Go.RowKit Go.Deep
set_option maxHeartbeats 1000000 in
set_option maxRecDepth 100000 in
theorem readLet_any {B : Nat} {S : RS} {w : World} {kw : RTok} {l1 : List RTok} (h : RdAt w B S) (hf : S.f = false) (hd : S.d = 0) (hl : LeftR S (kw :: l1)) (hk : kw.text = cLet) (hls : S.ls.length ≤ 401) :
    Calls Tryz.prog 86 #[.pointer (some ⟨B, 0, none⟩)] w fun e w' => e = .returned (.tuple #[]) ∧ LetOut B S (kw :: l1) w w' := by
  obtain ⟨i0, hi, hz0, hz1, hz2⟩ := info_parts Tryz.infoLet
  have HF := hideP hf
  have HD := hideP hd
  have HL := hideP hl
  have HKW := hideP hk
  have HRV := hideP (fun b (e : S.rv.ownBlock = some b) => (h.orl.lt b e).2)
  have hm := hl.may
  have HM := hideP hm
  have HU := hideP (Und.start (p := ⟨0, 0, 0⟩) (l := kw :: l1) h (KeepN.refl B w))
  clear h hf hd hl hk hm
  have H0 : Hid (∀ j ns, (j = 0 ∧ ns = S.ns) → j ≤ (kw :: l1).length ∧ ns.length ≤ S.ns.length + j ∧ (∀ a, (kw :: l1)[j]? = some a → kindP a.text = 3 → (fun j ns => j = 1 ∧ ns = S.ns) (j + 1) ns) ∧ ((∀ a, (kw :: l1)[j]? = some a → kindP a.text ≠ 3) → BadS ⟨0, 0, 0⟩ (kw :: l1) j)) := by
    rintro j ns ⟨rfl, rfl⟩
    refine ⟨by simp, by omega, fun a ha hka => ⟨rfl, rfl⟩, fun hno => ?_⟩
    exact absurd (by rw [HKW.out]; decide) (hno kw rfl)
  go_enter Tryz.func86, Tryz.ntmps86
  go_wp2_with (go_at_call_of 114 (Value.int IntKind.i64 3); refine (take_und (G' := fun j ns => j = 1 ∧ ns = S.ns) 3 (by omega) HF.out HL.out HU.out H0.out).mono ?_; rintro e w1 ⟨rfl, hu1, hk1⟩; have HU1 := hideP hu1; clear hu1 hk1)
  go_wp2_with (go_at_call 57; refine (current_und HL.out HU1.out (fun j ns hG => by obtain ⟨rfl, rfl⟩ := hG; simp)).mono ?_; rintro e w2 ⟨tk, rfl, hb2, hu2⟩; unfold tokA; have HU2 := hideP (hu2.below (new_below w2 (.cells #[.int .i64 (kindP tk.text), .int .i64 tk.at', .string (bsOf tk.text)] 114))); have HT := hideP (Blk.new w2 #[.int .i64 (kindP tk.text), .int .i64 tk.at', .string (bsOf tk.text)] 114); have hB2 := hu2.lt; clear hb2 hu2)
  have hne : w2.heap.size ≠ B := by omega
  go_wp2_with (go_at_call_of 114 (Value.int IntKind.i64 2); refine (take_und 2 (by omega) HF.out HL.out HU2.out (name_step S HKW.out HM.out)).mono ?_; rintro e w3 ⟨rfl, hu3, hk3⟩; have HU3 := hideP hu3; replace HT := hideP (HT.out.keepN hk3 hne (by decide)); clear hu3 hk3)
  go_wp2_with (go_at_call_of 114 (Value.int IntKind.i64 23); refine (take_und 23 (by omega) HF.out HL.out HU3.out (eq_step S HKW.out HM.out)).mono ?_; rintro e w4 ⟨rfl, hu4, hk4⟩; have HU4 := hideP hu4; replace HT := hideP (HT.out.keepN hk4 hne (by decide)); clear hu4 hk4)
  go_wp2_with (go_at_call 115; refine (readExpr_und (G' := G4 S (kw :: l1) tk) HRV.out HF.out HD.out HL.out HU4.out (expr_step S HKW.out)).mono ?_; rintro e w5 ⟨pe, rfl, hu5, hk5⟩; unfold expA; have HU5 := hideP (hu5.below (new_below w5 (.cells #[.int .i64 pe.place, .int .i64 pe.fr, .int .i64 pe.behind] 118))); have HX := hideP (Blk.new w5 #[.int .i64 pe.place, .int .i64 pe.fr, .int .i64 pe.behind] 118); have hB5 := hu5.lt; replace HT := hideP ((HT.out.keepN hk5 hne (by decide)).alloc (.cells #[.int .i64 pe.place, .int .i64 pe.fr, .int .i64 pe.behind] 118)); clear hu5 hk5)
  have hne5 : w5.heap.size ≠ B := by omega
  go_wp2_with (go_at_call_of 114 (Value.int IntKind.i64 22); refine (take_und 22 (by omega) HF.out HL.out HU5.out (semi_step S HKW.out HM.out pe)).mono ?_; rintro e w6 ⟨rfl, hu6, hk6⟩; have HU6 := hideP hu6; replace HT := hideP (HT.out.keepN hk6 hne (by decide)); replace HX := hideP (HX.out.keepN hk6 hne5 (by decide)); clear hu6 hk6)
  obtain ⟨S', hR, hlv, hrv, hls', hrs, hcond⟩ := HU6.out.any
  have HCOND := hideP hcond
  have HLS := hideP hls'
  have HRS := hideP hrs
  have HLV := hideP hlv
  have hB6 := hR.blk.lt
  have hlen : S'.ls.length ≤ 401 := by rw [hls']; exact hls
  have c5 := hR.blk.cell 5
  have f5 := hR.blk.free 5
  have t0 := HT.out.cell 0
  have t1 := HT.out.cell 1
  have t2 := HT.out.cell 2
  have x0 := HX.out.cell 0
  have x1 := HX.out.cell 1
  have x2 := HX.out.cell 2
  simp only [List.getElem?_toArray, List.getElem?_cons_zero, List.getElem?_cons_succ] at c5 t0 t1 t2 x0 x1 x2
  have HT6 := hideP HT.out.lt
  have hneB : S'.lv.ownBlock ≠ some B := by intro e; have := (hR.olt.lt B e).1; omega
  have HW := hideP ((hR.alloc (.cells #[.int .i64 (kindP tk.text), .int .i64 tk.at', .string (bsOf tk.text), .int .i64 pe.place, .int .i64 pe.fr, .int .i64 pe.behind] 120)).drew)
  have hone : ∀ u ∈ [Value.int .i64 (kindP tk.text), .int .i64 tk.at', .string (bsOf tk.text), .int .i64 pe.place, .int .i64 pe.fr, .int .i64 pe.behind], u.oneCell' = true := one_let ⟨tk, pe⟩
  have h63 : S'.ls.length + 1 ≤ maxLen := by unfold maxLen; omega
  have hnb := Blk.new w6 #[.int .i64 (kindP tk.text), .int .i64 tk.at', .string (bsOf tk.text), .int .i64 pe.place, .int .i64 pe.fr, .int .i64 pe.behind] 120
  have hnews : ∀ j u, [Value.int .i64 (kindP tk.text), .int .i64 tk.at', .string (bsOf tk.text), .int .i64 pe.place, .int .i64 pe.fr, .int .i64 pe.behind][j]? = some u → ((w6.alloc (.cells #[.int .i64 (kindP tk.text), .int .i64 tk.at', .string (bsOf tk.text), .int .i64 pe.place, .int .i64 pe.fr, .int .i64 pe.behind] 120)).drew).cell? ((⟨w6.heap.size, 0, none⟩ : Addr).add j) = some u := World.news_of_block (cs := #[.int .i64 (kindP tk.text), .int .i64 tk.at', .string (bsOf tk.text), .int .i64 pe.place, .int .i64 pe.fr, .int .i64 pe.behind]) (t := 120) (fr := (0, 0)) hnb
  clear hcond hlv hrv hls' hrs hR
  go_region_law ((refine step_append_lies _ (by rfl) _ _ _ (by rfl) (B + 1) 120 i0 _ 6 56 Tryz.underlying74 hi hz0 hz1 hz2 rfl (by omega) S'.lv S'.ls.length (cellsLt S'.ls) (by rfl) HW.out.olt ⟨w6.heap.size, 0, none⟩ 1 1 [.int .i64 (kindP tk.text), .int .i64 tk.at', .string (bsOf tk.text), .int .i64 pe.place, .int .i64 pe.fr, .int .i64 pe.behind] (by rfl) (by rfl) hnews hone (by omega) h63 (by omega) (by simp <;> omega) (w6.heap.size + 1) (by simp) ?_; intro gg cap w7 hown7 hgrow hat hlt7; have f7 : w7.frozen? ⟨B, 5, none⟩ = false := (hgrow.frozen_far _ (by simp <;> omega) (Ne.symm hneB)).trans (HW.out.blk.free 5); have c7 : w7.cell? ⟨B, 5, none⟩ = some S'.lv := (hgrow.cell_far _ (by simp <;> omega) (Ne.symm hneB)).trans (HW.out.blk.cell 5)))
  all_goals
    have R := rd_let (n := ⟨tk, pe⟩) HW.out hown7 hgrow
    have HB7 := hideP ((HU6.out.kp.below (by have := HU.out.lt; omega)).trans ((below_drewN ((Below.refl B w6).alloc (Nat.le_of_lt hB6) _) 1).trans R.2))
    have HRR := hideP R.1
    clear R hnews hnb hone hown7 hgrow
    go_wp2
    refine bodyPost_end (results_none rfl _ _ _) rfl ⟨rfl, HB7.out, ?_⟩
    rcases HCOND.out with ⟨j, nv, ns, ⟨s, rest, g1, g2, rfl, rfl, g3⟩, hS⟩ | ⟨j, nv, ns, hbad, hS⟩
    · refine .inl ⟨s, rest, nv, .slice (some ⟨gg, 0, none⟩) (S'.ls.length + 1) cap, g1, g2, ?_⟩
      have := HRR.out
      rw [g3]
      subst hS
      exact this
    · refine .inr ⟨j, nv, .slice (some ⟨gg, 0, none⟩) (S'.ls.length + 1) cap, ns, ⟨tk, pe⟩, hbad, ?_⟩
      have := HRR.out
      subst hS
      exact this
end Go.Proofs.YtjjbmbjmdgoofaaGreatDoor
