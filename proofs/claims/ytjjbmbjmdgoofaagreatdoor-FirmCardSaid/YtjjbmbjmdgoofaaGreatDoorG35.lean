/-
  Compile: rules, Whole, Image.
-/
import Derived.Test.YtjjbmbjmdgoofaaGreatDoorG34
set_option linter.unusedVariables false
set_option linter.unusedSimpArgs false
namespace Go.Proofs.YtjjbmbjmdgoofaaGreatDoor
open Go.RowKit Go.Deep
theorem rulesH_ext (fs : List Fact) (ls : List PLet) (N : List PNode) : ∀ (rs : List PRule) (c : List Nat) (h : Nat), ∃ d, (rulesH fs ls N rs c h).1 = c ++ d
  | [], c, h => ⟨_, rfl⟩
  | r :: rs, c, h => by
    rw [rulesH]
    split
    · exact ⟨_, rfl⟩
    · split
      · obtain ⟨d, hd⟩ := rulesH_ext fs ls N rs (c ++ (guardH fs ls N r h).1) (guardH fs ls N r h).2
        exact ⟨(guardH fs ls N r h).1 ++ d, by rw [hd, List.append_assoc]⟩
      · exact rulesH_ext fs ls N rs c h
theorem appliesF_le (fs : List Fact) (r : PRule) : appliesF fs r ≤ 2 := by
  unfold appliesF
  split
  · split
    · omega
    · split <;> omega
  · omega
theorem rule_cells {w : World} {cb : Nat} {nv lv rv fv : Value} {h : Nat} {N : List PNode} {ls : List PLet} {rs : List PRule} {fs : List Fact} (H : CmpAt w cb nv lv rv fv h N ls rs fs) {i : Nat} (hi : i < rs.length) : ∃ g o cap, rv = .slice (some ⟨g, o, none⟩) rs.length cap ∧ rs.length ≤ cap ∧ g < w.heap.size ∧ ∀ j u, (cellU rs[i])[j]? = some u → w.cell? ⟨g, o + (i * 8 + j), none⟩ = some u := by
  obtain ⟨g, o, cap, hv, hcap, hg, hcl⟩ := H.pa.r.pos (by omega)
  refine ⟨g, o, cap, hv, hcap, hg, fun j u hu => ?_⟩
  have hj : j < 8 := by
    have := (List.getElem?_eq_some_iff.1 hu).1
    simpa [cellU] using this
  exact hcl (i * 8 + j) u ((flat_get cellU 8 (fun _ => rfl) rs i hi j hj).trans hu)
set_option maxHeartbeats 8000000 in
set_option maxRecDepth 100000 in
theorem rules_any {w : World} {cb : Nat} {nv lv rv fv : Value} {h : Nat} {N : List PNode} {ls : List PLet} {rs : List PRule} {fs : List Fact} (H : CmpAt w cb nv lv rv fv h N ls rs fs) (hp : CmpOk N ls rs fs) (C : List Nat) (h' : Nat) (hc : rulesH fs ls N rs [] h = (C, h')) (hlen : C.length ≤ 60000) :
    Calls Tryz.prog 62 #[.pointer (some ⟨cb, 0, none⟩)] w fun e w' => e = .returned (.string (bsN C)) ∧ CmpAt w' cb nv lv rv fv h' N ls rs fs ∧ But cb w w' := by
  obtain ⟨ra, rc, rfl⟩ := H.pa.r.shape
  have hrb := H.pa.rb
  have HC := Hid.mk2 H
  have HP := Hid.mk2 hp
  have HCC := Hid.mk2 hc
  clear H hp hc
  go_enter Tryz.func62, Tryz.ntmps62
  go_wp2
  go_loopw [3, 4] (fun vc vi wr => ∃ (i : Nat) (c : List Nat) (h1 : Nat), i ≤ rs.length ∧ vi = .int .i64 i ∧ vc = .string (bsN c) ∧ CmpAt wr cb nv lv (.slice ra rs.length rc) fv h1 N ls rs fs ∧ But cb w wr ∧ rulesH fs ls N (rs.drop i) c h1 = (C, h')) (fun _ i _ => 1000 - (intOf i).toNat)
  case atStart => exact ⟨0, [], h, Nat.zero_le _, rfl, rfl, HC.out, But.refl _ _, HCC.out⟩
  case round =>
    obtain ⟨i, c, h1, hi, rfl, rfl, hcm, hbu, hgo⟩ := hrel
    clear HC HCC
    obtain ⟨dd, hdd⟩ := rulesH_ext fs ls N (rs.drop i) c h1
    rw [hgo] at hdd
    have hcl : c.length ≤ 60000 := by
      have := congrArg List.length hdd
      simp only [List.length_append] at this
      omega
    clear hdd dd
    have zc : (bsN c).size = c.length := bsN_len _
    have hlc := hcm.blk.lt
    have k2 := hcm.blk.cell 2
    simp only [List.getElem?_toArray, List.getElem?_cons_zero, List.getElem?_cons_succ] at k2
    have HBU := Hid.mk2 hbu
    clear hbu
    by_cases hlt : i < rs.length
    · obtain ⟨g, o, cap, hcut, hcap, hg, hcs⟩ := rule_cells hcm hlt
      cases hcut
      rw [List.drop_eq_getElem_cons hlt] at hgo
      have hmem : rs[i] ∈ rs := List.getElem_mem hlt
      obtain ⟨r, hr⟩ : ∃ r, rs[i] = r := ⟨_, rfl⟩
      rw [hr] at hgo hcs hmem
      clear hr
      have d0 : wr.cell? ⟨g, o + i * 8, none⟩ = some (.bool r.hw) := hcs 0 _ rfl
      have d1 : wr.cell? ⟨g, o + i * 8 + 1, none⟩ = some (.int .i64 r.when.place) := by rw [Nat.add_assoc]; exact hcs 1 _ rfl
      have d2 : wr.cell? ⟨g, o + i * 8 + 2, none⟩ = some (.int .i64 r.when.fr) := by rw [Nat.add_assoc]; exact hcs 2 _ rfl
      have d3 : wr.cell? ⟨g, o + i * 8 + 3, none⟩ = some (.int .i64 r.when.behind) := by rw [Nat.add_assoc]; exact hcs 3 _ rfl
      have d4 : wr.cell? ⟨g, o + i * 8 + 4, none⟩ = some (.bool r.hs) := by rw [Nat.add_assoc]; exact hcs 4 _ rfl
      have d5 : wr.cell? ⟨g, o + i * 8 + 5, none⟩ = some (.int .i64 r.score.place) := by rw [Nat.add_assoc]; exact hcs 5 _ rfl
      have d6 : wr.cell? ⟨g, o + i * 8 + 6, none⟩ = some (.int .i64 r.score.fr) := by rw [Nat.add_assoc]; exact hcs 6 _ rfl
      have d7 : wr.cell? ⟨g, o + i * 8 + 7, none⟩ = some (.int .i64 r.score.behind) := by rw [Nat.add_assoc]; exact hcs 7 _ rfl
      have HR := Hid.mk2 (RuSt.start hcm r)
      have HWB := Hid.mk2 (HP.out.wh r hmem)
      have hap := appliesF_le fs r
      rw [rulesH] at hgo
      obtain ⟨ap, hapE⟩ : ∃ ap, appliesF fs r = ap := ⟨_, rfl⟩
      have HAP := Hid.mk2 hapE
      rw [hapE] at hgo hap
      clear hapE hcs hcm
      obtain rfl | rfl | rfl : ap = 2 ∨ ap = 1 ∨ ap = 0 := by omega
      · rw [if_pos rfl] at hgo
        obtain ⟨ca, hA, hAx⟩ : ∃ ca hA, actH fs ls N r h1 = (ca, hA) := ⟨_, _, rfl⟩
        rw [hAx] at hgo
        simp only [Prod.mk.injEq] at hgo
        obtain ⟨hC, rfl⟩ := hgo
        have hcal : c.length + ca.length ≤ 60000 := by
          have := congrArg List.length hC
          simp only [List.length_append] at this
          omega
        have HY : Hid (∀ wx, CmpAt wx cb nv lv (.slice (some ⟨g, o, none⟩) rs.length rc) fv h1 N ls rs fs → Calls Tryz.prog 94 #[.pointer (some ⟨cb, 0, none⟩), ruA r] wx fun e w' => e = .returned (.string (bsN ca)) ∧ CmpAt w' cb nv lv (.slice (some ⟨g, o, none⟩) rs.length rc) fv hA N ls rs fs ∧ But cb wx w') := fun wx Hx => act_any Hx HP.out r hmem ca hA hAx (by omega)
        unfold ruA at HY
        have HFin : Hid (bsN c ++ bsN ca = bsN C) := by rw [Hid, bsN_append, hC]
        have za : (bsN ca).size = ca.length := bsN_len _
        clear hAx hC hmem hap
        go_wp2_with (first
          | (go_at_call 93; refine (applies_any HR.out.c r HWB.out).mono ?_; rintro e w1 ⟨rfl, hc1, hb1⟩; rw [HAP.out]; replace HR := Hid.mk2 (HR.out.call hc1 hb1); clear hc1 hb1; have u0 := HR.out.r.cell 0; have u1 := HR.out.r.cell 1; have u2 := HR.out.r.cell 2; have u3 := HR.out.r.cell 3; have u4 := HR.out.r.cell 4; have u5 := HR.out.r.cell 5; have u6 := HR.out.r.cell 6; have u7 := HR.out.r.cell 7; have hlr := HR.out.r.lt; simp only [ruC, List.getElem?_toArray, List.getElem?_cons_zero, List.getElem?_cons_succ] at u0 u1 u2 u3 u4 u5 u6 u7)
          | (go_at_call 94; refine (HY.out _ HR.out.c).mono ?_; rintro e w2 ⟨rfl, hc2, hb2⟩; clear u0 u1 u2 u3 u4 u5 u6 u7 hlr; replace HR := Hid.mk2 (HR.out.call hc2 hb2); clear hc2 hb2))
        go_ret
        exact ⟨by rw [← HFin.out]; rfl, HR.out.c, HBU.out.trans HR.out.bu⟩
      · rw [if_neg (by omega), if_pos rfl] at hgo
        obtain ⟨ca, hA, hAx⟩ : ∃ ca hA, guardH fs ls N r h1 = (ca, hA) := ⟨_, _, rfl⟩
        rw [hAx] at hgo
        simp only at hgo
        obtain ⟨dd, hdd⟩ := rulesH_ext fs ls N (rs.drop (i + 1)) (c ++ ca) hA
        rw [hgo] at hdd
        have hcal : c.length + ca.length ≤ 60000 := by
          have := congrArg List.length hdd
          simp only [List.length_append] at this
          omega
        clear hdd dd
        have HGO := Hid.mk2 hgo
        have HY : Hid (∀ wx, CmpAt wx cb nv lv (.slice (some ⟨g, o, none⟩) rs.length rc) fv h1 N ls rs fs → Calls Tryz.prog 95 #[.pointer (some ⟨cb, 0, none⟩), ruA r] wx fun e w' => e = .returned (.string (bsN ca)) ∧ CmpAt w' cb nv lv (.slice (some ⟨g, o, none⟩) rs.length rc) fv hA N ls rs fs ∧ But cb wx w') := fun wx Hx => guarded_any Hx HP.out r hmem ca hA hAx (by omega)
        unfold ruA at HY
        have HFin : Hid (bsN c ++ bsN ca = bsN (c ++ ca)) := bsN_append _ _
        have za : (bsN ca).size = ca.length := bsN_len _
        clear hAx hgo hmem hap
        go_wp2_with (first
          | (go_at_call 93; refine (applies_any HR.out.c r HWB.out).mono ?_; rintro e w1 ⟨rfl, hc1, hb1⟩; rw [HAP.out]; replace HR := Hid.mk2 (HR.out.call hc1 hb1); clear hc1 hb1; have u0 := HR.out.r.cell 0; have u1 := HR.out.r.cell 1; have u2 := HR.out.r.cell 2; have u3 := HR.out.r.cell 3; have u4 := HR.out.r.cell 4; have u5 := HR.out.r.cell 5; have u6 := HR.out.r.cell 6; have u7 := HR.out.r.cell 7; have hlr := HR.out.r.lt; simp only [ruC, List.getElem?_toArray, List.getElem?_cons_zero, List.getElem?_cons_succ] at u0 u1 u2 u3 u4 u5 u6 u7)
          | (go_at_call 95; refine (HY.out _ HR.out.c).mono ?_; rintro e w2 ⟨rfl, hc2, hb2⟩; clear u0 u1 u2 u3 u4 u5 u6 u7 hlr; replace HR := Hid.mk2 (HR.out.call hc2 hb2); clear hc2 hb2))
        go_roundw
        case rel => exact ⟨i + 1, c ++ ca, hA, by omega, by go_num, by rw [← HFin.out], HR.out.c, HBU.out.trans HR.out.bu, HGO.out⟩
        case measure => simp [intOf]; omega
      · rw [if_neg (by omega), if_neg (by omega)] at hgo
        have HGO := Hid.mk2 hgo
        clear hgo hmem hap
        go_wp2_with (go_at_call 93; refine (applies_any HR.out.c r HWB.out).mono ?_; rintro e w1 ⟨rfl, hc1, hb1⟩; rw [HAP.out]; replace HR := Hid.mk2 (HR.out.call hc1 hb1); clear hc1 hb1; have u0 := HR.out.r.cell 0; have u1 := HR.out.r.cell 1; have u2 := HR.out.r.cell 2; have u3 := HR.out.r.cell 3; have u4 := HR.out.r.cell 4; have u5 := HR.out.r.cell 5; have u6 := HR.out.r.cell 6; have u7 := HR.out.r.cell 7; have hlr := HR.out.r.lt; simp only [ruC, List.getElem?_toArray, List.getElem?_cons_zero, List.getElem?_cons_succ] at u0 u1 u2 u3 u4 u5 u6 u7)
        go_roundw
        case rel => exact ⟨i + 1, c, h1, by omega, by go_num, rfl, HR.out.c, HBU.out.trans HR.out.bu, HGO.out⟩
        case measure => simp [intOf]; omega
    · have hin : i = rs.length := by omega
      subst hin
      rw [List.drop_length, rulesH] at hgo
      simp only [Prod.mk.injEq] at hgo
      obtain ⟨hC, rfl⟩ := hgo
      have HFin : Hid (bsN c ++ bsN (opC 17 0) = bsN C) := by rw [Hid, bsN_append, hC]
      have z17 : (bsN (opC 17 0)).size = 1 := by rw [opC_size]; rfl
      have HCM := Hid.mk2 hcm
      clear hC hcm
      go_wp2_with (go_at_call 96; refine (Bytes_any 17 (by omega) 0 (by decide) _ HCM.out.gb).mono ?_; rintro e w2 ⟨rfl, hb2⟩; replace HCM := Hid.mk2 (HCM.out.below hb2); replace HBU := Hid.mk2 (HBU.out.trans (But.of hb2)); clear hb2)
      go_ret
      exact ⟨by rw [← HFin.out]; rfl, HCM.out, HBU.out⟩
theorem i64_low (n : Nat) (hn : n < 100000) : bits .and .i64 (n : Int) 255 = ((n % 256 : Nat) : Int) := by
  have h := bits_mask .i64 63 (by decide) (fun m h0 h1 => by rw [IntKind.wrap_i64]; omega) 8 (by decide) (n : Int) (by omega) (by omega)
  have e : ((2 : Int) ^ 8 - 1) = 255 := by decide
  have e2 : ((2 : Int) ^ 8) = 256 := by decide
  rw [e, e2] at h
  rw [h]
  omega
set_option maxHeartbeats 1000000 in
set_option maxRecDepth 100000 in
theorem Whole_any (h : Nat) (hh : h < 100000) (c : List Nat) (hl : c.length ≤ 60000) (w : World) :
    Calls Tryz.prog 63 #[.int .i64 h, .string (bsN c)] w fun e w' => e = .returned (.string (bsN (imgC (h % 256) c))) ∧ Below w.heap.size w w' := by
  obtain ⟨k, hk⟩ : ∃ k, h % 256 = k := ⟨_, rfl⟩
  have hk8 : k < 256 := by omega
  have hbits : bits BinOp.and IntKind.i64 (h : Int) 255 = (k : Int) := by rw [← hk]; exact i64_low h hh
  rw [hk]
  clear hk
  have hcv := conv_bytes (w.alloc (Obj.cells #[Value.int .u8 83, Value.int .u8 76, Value.int .u8 k] 5)) w.heap.size [83, 76, k] 5 (Blk.new w _ _)
  simp only [List.length_cons, List.length_nil, Nat.zero_add, Nat.reduceAdd] at hcv
  have z0 : (bsN [83, 76, k]).size = 3 := bsN_len _
  have z1 : (bsN c).size = c.length := bsN_len _
  have HE : Hid (bsN [83, 76, k] ++ bsN c = bsN (imgC k c)) := by rw [Hid, bsN_append]; rfl
  go_enter Tryz.func63, Tryz.ntmps63
  go_wp2
  go_ret
  exact ⟨by rw [← HE.out]; rfl, box3 _ _⟩
end Go.Proofs.YtjjbmbjmdgoofaaGreatDoor
namespace Go.Proofs.YtjjbmbjmdgoofaaGreatDoor
open Go.RowKit Go.Deep
theorem cmp_start {w : World} {nv lv rv : Value} {N : List PNode} {ls : List PLet} {rs : List PRule} (h : PolAt w nv lv rv N ls rs) {fb : Nat} {fs : List Fact} (hf : Blk w fb (cellsF fs).toArray 159) (hl : fs.length = N.length) (hg : GlobB w) :
    CmpAt (w.alloc (.cells #[nv, lv, rv, .slice (some ⟨fb, 0, none⟩) N.length N.length, .int .i64 0] 129)) w.heap.size nv lv rv (.slice (some ⟨fb, 0, none⟩) N.length N.length) 0 N ls rs fs := by
  have hb := box3 w (.cells #[nv, lv, rv, .slice (some ⟨fb, 0, none⟩) N.length N.length, .int .i64 0] 129)
  have hnb := h.nb
  have hfl := hf.lt
  have hgs := hg.size
  refine ⟨Blk.new w _ _, h.below hb, ?_, by omega, hg.below hb, apart_new h (Nat.le_refl _), ?_, by omega⟩
  · refine Reads.below (.inr ⟨fb, 0, N.length, by rw [hl], by omega, hfl, fun j u hj => ?_⟩) hb
    rw [Nat.zero_add, hf.cell]
    simpa using hj
  · simp only [Value.ownBlock, ne_eq, Option.some.injEq]; omega
set_option maxHeartbeats 2000000 in
set_option maxRecDepth 100000 in
theorem Image_any (nv lv rv : Value) (N : List PNode) (ls : List PLet) (rs : List PRule) (w : World) (h : PolAt w nv lv rv N ls rs) (hp : CmpOk N ls rs (factsP ls N)) (hg : GlobB w) (C : List Nat) (H : Nat) (hc : rulesH (factsP ls N) ls N rs [] 0 = (C, H)) (hlen : C.length ≤ 60000) (hh : H < 100000) :
    Calls Tryz.prog 35 #[polA nv lv rv] w fun e w' => e = .returned (.string (bsN (imageC N ls rs))) ∧ Below w.heap.size w w' := by
  obtain ⟨na, nc, rfl⟩ := h.n.shape
  obtain ⟨la, lc, rfl⟩ := h.l.shape
  obtain ⟨ra, rc, rfl⟩ := h.r.shape
  have HIM : Hid (imageC N ls rs = imgC (H % 256) C) := by rw [Hid, imageC, hc]
  have HG := Hid.mk2 hg
  have HP := Hid.mk2 hp
  have HCC := Hid.mk2 hc
  have HPA := Hid.mk2 h
  have HB0 := Hid.mk2 (box3 w (.cells #[.slice na N.length nc, .slice la ls.length lc, .slice ra rs.length rc] 77))
  have HBX := Hid.mk2 (Blk.new w #[.slice na N.length nc, .slice la ls.length lc, .slice ra rs.length rc] 77)
  clear hg h hp hc
  unfold polA
  go_enter Tryz.func35, Tryz.ntmps35
  go_wp2
  have hz : (w.alloc (.cells #[.slice na N.length nc, .slice la ls.length lc, .slice ra rs.length rc] 77)).heap.size = w.heap.size + 1 := by simp
  generalize hw1 : w.alloc (.cells #[.slice na N.length nc, .slice la ls.length lc, .slice ra rs.length rc] 77) = w1 at *
  clear hw1
  have p0 := HBX.out.cell 0
  have p1 := HBX.out.cell 1
  have p2 := HBX.out.cell 2
  go_region_with (go_at_call 61; refine (factsOf_any (.slice na N.length nc) (.slice la ls.length lc) (.slice ra rs.length rc) N ls rs _ ((HPA.out.below HB0.out).below (below_drewN (Below.refl w1.heap.size w1) 1)) HP.out.nd HP.out.lt).mono ?_; rintro e w2 ⟨hb2, fb, hfb, rfl, hrow⟩; have hb2' : Below w1.heap.size w1 w2 := (below_drewN (Below.refl w1.heap.size w1) 1).trans hb2; have HB2 := Hid.mk2 (HB0.out.trans (hb2'.mono (by omega))); have HROW := Hid.mk2 hrow; replace HBX := Hid.mk2 (HBX.out.below hb2' HBX.out.lt); have c0 := HBX.out.cell 0; have c1 := HBX.out.cell 1; have c2 := HBX.out.cell 2; have hs2 := hb2'.size; clear hb2 hb2' hrow)
  all_goals
    have HC := Hid.mk2 (cmp_start (HPA.out.below HB2.out) HROW.out (factsP_length ls N) (HG.out.below HB2.out))
    go_wp2_with (first
      | (go_at_call 62; refine (rules_any HC.out HP.out C H HCC.out hlen).mono ?_; rintro e w3 ⟨rfl, hc3, hb3⟩; have HC3 := Hid.mk2 hc3; have HB3 := Hid.mk2 hb3; have k4 := hc3.blk.cell 4; have hl3 := hc3.blk.lt; simp only [List.getElem?_toArray, List.getElem?_cons_zero, List.getElem?_cons_succ] at k4; clear hc3 hb3)
      | (go_at_call 63; refine (Whole_any H hh C hlen _).mono ?_; rintro e w4 ⟨rfl, hb4⟩))
    go_ret
    have hs0 := HB2.out.size
    have hs3 := HB3.out.size
    refine ⟨by rw [HIM.out]; rfl, ((HB2.out.trans ((box3 w2 _).mono HB2.out.size)).trans (HB3.out.below ?_ ?_)).trans (hb4.mono ?_)⟩
    · omega
    · simp; omega
    · simp at hs3; omega
end Go.Proofs.YtjjbmbjmdgoofaaGreatDoor
