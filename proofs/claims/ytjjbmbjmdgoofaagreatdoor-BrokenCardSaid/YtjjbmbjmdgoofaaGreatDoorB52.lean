/-
  Broken, for all arguments.
-/
import Derived.Test.YtjjbmbjmdgoofaaGreatDoorB50
import Derived.Test.YtjjbmbjmdgoofaaGreatDoorB51
import Derived.Test.YtjjbmbjmdgoofaaGreatDoorRows
import Derived.ProofKit
import Derived.LaidMore
import Derived.OpenShut
import Derived.Stop.Joined
import Derived.Test.YtjjbmbjmdgoofaaGreatDoorTie
import Derived.Test.YtjjbmbjmdgoofaaGreatDoorCards
import Derived.SevenTiedAt
set_option linter.unusedVariables false
set_option linter.unusedSimpArgs false
namespace Go.Proofs.YtjjbmbjmdgoofaaGreatDoor
open Go.RowKit Go.Deep
set_option maxHeartbeats 1000000 in
theorem New_new (w : World) :
    Calls Tryz.prog 13 #[] w fun e w' => e = .returned (.pointer (some ⟨w.heap.size, 0, none⟩)) ∧ Below w.heap.size w w' := by
  go_enter Tryz.func13, Tryz.ntmps13
  go_wp2
  go_ret
  exact ⟨rfl, new_below w _⟩
structure BrSt (w wx : World) (tb : Nat) (T : ByteArray) (K V S : Int) : Prop where
  blk : Blk wx tb (mg T K V S) 25
  le : w.heap.size ≤ tb
  bl : Below w.heap.size w wx
theorem BrSt.below {w wx w' : World} {tb : Nat} {T : ByteArray} {K V S : Int} (h : BrSt w wx tb T K V S) (hb : Below wx.heap.size wx w') : BrSt w w' tb T K V S :=
  ⟨h.blk.below hb h.blk.lt, h.le, h.bl.trans (hb.mono h.bl.size)⟩
theorem BrSt.dr {w wx : World} {tb : Nat} {T : ByteArray} {K V S : Int} (h : BrSt w wx tb T K V S) (n : Nat) : BrSt w (wx.drewN n) tb T K V S :=
  ⟨h.blk.drewN n, h.le, below_drewN h.bl n⟩
structure BrkT (T B : ByteArray) (k : Nat) : Prop where
  eq : T.extract 0 k ++ ({ data := #[63] } : ByteArray) ++ T.extract k T.size = B
  bad : tokened B.toList = .bad 2 k
  len : B.size ≤ maxLen
theorem bang_int (c : UInt8) {j : Nat} (hj : 0 < j) : (decide (0 < j) && decide (some c = some (33 : UInt8))) = ((c.toNat : Int) == 33) := by
  by_cases h : c = 33
  · subst h
    simp [hj]
  · have h2 : ¬ ((c.toNat : Int) = 33) := fun e => h (UInt8.toNat_inj.1 (by show c.toNat = 33; omega))
    simp [h, h2]
theorem app_list (a b : ByteArray) : (a ++ b).toList = a.toList ++ b.toList := by
  rw [ByteArray.toList_eq, ByteArray.toList_eq, ByteArray.toList_eq, ByteArray.data_append, Array.toList_append]
theorem brk_of {T : ByteArray} {l : List RTok} (h : tokened T.toList = .fine l) (hz : T.size ≤ 390) {k : Nat} (hk : k ≤ T.size) (hq : 0 < k → T.toList[k - 1]? ≠ some (33 : UInt8)) : ∃ B, BrkT T B k := by
  refine ⟨_, rfl, ?_, ?_⟩
  · have e1 : (T.extract 0 k).toList = T.toList.take k := by rw [extract_bsOf, bsOf_toList]; simp
    have e2 : (T.extract k T.size).toList = T.toList.drop k := by rw [extract_bsOf, bsOf_toList, ← toList_length, ← List.length_drop, List.take_length]
    have e3 : ({ data := #[63] } : ByteArray).toList = [63] := by rw [ByteArray.toList_eq]
    rw [app_list, app_list, e1, e2, e3, List.append_assoc]
    exact tokened_broken h (by rw [toList_length]; omega) k (by rw [toList_length]; exact hk) hq
  · rw [ByteArray.size_append, ByteArray.size_append, ByteArray.size_extract, ByteArray.size_extract]
    show min k T.size - 0 + 1 + (min T.size T.size - k) ≤ maxLen
    have : 400 ≤ maxLen := by decide
    omega
theorem early_of {T : ByteArray} {l : List RTok} (h : tokened T.toList = .fine l) {U : Txt} (hU : T.toList = U ++ [59]) : 1 ≤ T.size ∧ tokened (T.extract 0 (T.size - 1)).toList = .bad 3 (T.size - 1) := by
  have hz : T.size = U.length + 1 := by rw [← toList_length, hU]; simp
  have e : (T.extract 0 (T.size - 1)).toList = U := by
    rw [extract_bsOf, bsOf_toList, hU, hz]
    simp
  rw [hU] at h
  rw [e, hz]
  exact ⟨by omega, tokened_early h⟩
theorem feed_none (w : World) : FeedAt (w.alloc (.cells #[.string { data := #[] }, .int .i64 0] 35)) w.heap.size :=
  ⟨{ data := #[] }, 0, Blk.new w _ _, Nat.le_refl _, by decide⟩
set_option maxHeartbeats 4000000 in
set_option maxRecDepth 100000 in
theorem Broken_any (s : ByteArray) (c : Int) (hc : In64 c) (hs : s.size ≤ maxLen) (w : World) (hgt : GlobT w) :
    Calls Tryz.prog 3 #[.string s, .int .i64 c] w fun e w' => Below w.heap.size w w' ∧ e = .returned (.bool true) := by
  have HC := Hid.mk2 hc
  have HS := Hid.mk2 hs
  have HT := Hid.mk2 hgt
  clear hc hs hgt
  go_enter Tryz.func3, Tryz.ntmps3
  go_upto_region 2 with (first
    | (go_at_call 7; refine (item_any 0 0 0 (by unfold In64; omega) (by unfold In64; omega) (by unfold In64; omega) _).mono ?_; rintro e w1 ⟨⟨x, hx, rfl⟩, hb1⟩; unfold itmA; have HX := Hid.mk2 hx; have HB1 := Hid.mk2 hb1; clear hx hb1)
    | (go_at_call 8; refine (bin_any 0 (by omega) _ _ (feed_none w1)).mono ?_; rintro e w2 ⟨⟨y, hy, hid, rfl⟩, hF, hB⟩; unfold bnA; have HY := Hid.mk2 hy; have HB2 := Hid.mk2 ((HB1.out.alloc HB1.out.size _).trans (hB.below HB1.out.size (by simp; have := HB1.out.size; omega))); clear hy hid hF hB)
    | (go_at_call 6; refine (policy_any s x y HX.out HY.out HS.out _).mono ?_; rintro e w3 ⟨⟨T, K, V, S, hp, rfl⟩, hb3⟩; have HPP := Hid.mk2 hp; have HBR : Hid (BrSt w (w3.alloc (.cells (mg T K V S) 25)) w3.heap.size T K V S) := (⟨Blk.new w3 _ _, (HB2.out.trans (hb3.mono HB2.out.size)).size, (HB2.out.trans (hb3.mono HB2.out.size)).alloc (HB2.out.trans (hb3.mono HB2.out.size)).size _⟩); clear hb3 hp))
  generalize w3.heap.size = tb at HBR ⊢
  generalize w3.alloc (.cells (mg T K V S) 25) = W at HBR ⊢
  obtain ⟨⟨⟨L, R, hfi⟩, hz⟩, U, hU⟩ := HPP.out
  have HF := Hid.mk2 hfi.pol.fine
  obtain ⟨h1, hea⟩ := early_of hfi.pol.fine hU
  have HEA := Hid.mk2 hea
  clear hfi hU hea HPP HX HY HB1 HB2
  have c0 := HBR.out.blk.cell 0
  go_upto_region 4 with (go_at_call 9; refine (pick_any c _ HC.out (by omega) _).mono ?_; rintro e _ ⟨⟨r, hr0, hr1, rfl⟩, rfl⟩)
  obtain ⟨k, rfl⟩ : ∃ k : Nat, r = (k : Int) := ⟨r.toNat, by omega⟩
  have HK : Hid (k ≤ T.size) := by rw [Hid]; omega
  clear hr0 hr1
  obtain ⟨bb, hbb⟩ : ∃ bb : Bool, bb = (decide (0 < k) && decide (T.toList[k - 1]? = some (33 : UInt8))) := ⟨_, rfl⟩
  have HBB := Hid.mk2 hbb
  go_cut [45] (fun s45 wx => s45 = .bool bb ∧ BrSt w wx tb T K V S)
  case first =>
    by_cases hk0 : k = 0
    · subst hk0
      clear hbb
      go_wp2
      go_meet
      case rel => exact ⟨by rw [HBB.out]; rfl, HBR.out⟩
    · obtain ⟨j, rfl⟩ : ∃ j, k = j + 1 := ⟨k - 1, by omega⟩
      have hk1 : j < T.size := HK.out
      have hwr : IntKind.i64.wrap (((j + 1 : Nat) : Int) - 1) = (j : Int) := by rw [IntWalk.i64_in _ ⟨by omega, by omega⟩]; omega
      have hg := getElem_toList T j hk1
      rw [Nat.add_sub_cancel, hg] at hbb
      have hb2 : bb = ((T[j].toNat : Int) == 33) := by
        rw [hbb]
        exact bang_int T[j] (Nat.succ_pos j)
      clear hbb hg
      go_wp2
      go_meet
      case rel => exact ⟨by rw [hb2], HBR.out⟩
  case rest =>
    obtain ⟨rfl, hbr⟩ := hcut
    clear HBR c0 hbb
    have HBR := Hid.mk2 hbr
    clear hbr
    have c0 := HBR.out.blk.cell 0
    go_upto_if 45 with fail
    go_cut [7] (fun s7 wx => ∃ k : Nat, s7 = .int .i64 k ∧ k ≤ T.size ∧ (0 < k → T.toList[k - 1]? ≠ some (33 : UInt8)) ∧ BrSt w wx tb T K V S)
    case first =>
      cases bb
      · go_wp2
        go_meet
        case rel => exact ⟨k, rfl, HK.out, fun h0 he => by have := HBB.out; rw [he] at this; simp [h0] at this, HBR.out⟩
      · have hb := HBB.out
        simp only [Bool.true_eq, Bool.and_eq_true, decide_eq_true_eq] at hb
        obtain ⟨h0, he⟩ := hb
        obtain ⟨j, rfl⟩ : ∃ j, k = j + 1 := ⟨k - 1, by omega⟩
        rw [Nat.add_sub_cancel] at he
        have HE := Hid.mk2 (tokened_bang HF.out he)
        have HJ : Hid (j ≤ T.size) := by have := HK.out; rw [Hid]; omega
        have hwr : IntKind.i64.wrap (((j + 1 : Nat) : Int) - 1) = (j : Int) := by rw [IntWalk.i64_in _ ⟨by have := HK.out; omega, by have := HK.out; omega⟩]; omega
        clear he h0
        go_wp2
        go_meet
        case rel => exact ⟨j, by rw [IntWalk.wrap64_in _ ⟨by omega, by have := HJ.out; omega⟩], HJ.out, HE.out, HBR.out⟩
    case rest =>
      obtain ⟨m, rfl, hm, hq, hbr⟩ := hcut
      clear HBR c0 HBB HK
      have HBR := Hid.mk2 hbr
      obtain ⟨B, hB⟩ := brk_of HF.out hz hm hq
      have HBK := Hid.mk2 hB.bad
      have HLN := Hid.mk2 hB.len
      have HPIN := Hid.mk2 (pinned_bad hB.bad)
      have hbe := hB.eq
      have zB : B.size = T.size + 1 := by
        rw [← hbe, ByteArray.size_append, ByteArray.size_append, ByteArray.size_extract, ByteArray.size_extract]
        show min m T.size - 0 + 1 + (min T.size T.size - m) = _
        omega
      obtain ⟨T1, hT1⟩ : ∃ T1, T.extract 0 m = T1 := ⟨_, rfl⟩
      obtain ⟨T2, hT2⟩ : ∃ T2, T.extract m T.size = T2 := ⟨_, rfl⟩
      have z1 : T1.size ≤ 390 := by rw [← hT1, ByteArray.size_extract]; omega
      have z2 : T2.size ≤ 390 := by rw [← hT2, ByteArray.size_extract]; omega
      have s1 : ∀ wx : World, (Instr.slice 9 (.string T) none (some (.int .i64 (m : Int))) none).run Tryz.prog wx = .ok (.string T1) wx := by
        intro wx
        rw [← hT1, run_slice_string_h wx 9 T Tryz.underlying9 .i64 _ (by omega) (by omega)]
        simp
      have s2 : ∀ wx : World, (Instr.slice 9 (.string T) (some (.int .i64 (m : Int))) none none).run Tryz.prog wx = .ok (.string T2) wx := by
        intro wx
        rw [← hT2, run_slice_string_l wx 9 T Tryz.underlying9 .i64 _ (by omega) (by omega)]
        simp
      rw [hT1, hT2] at hbe
      have f1 : (9223372036854775807 < T1.size + 1) = False := by simp; omega
      have f2 : (9223372036854775807 < T1.size + 1 + T2.size) = False := by simp; omega
      clear hbr hB hT1 hT2 zB hq
      have c0 := HBR.out.blk.cell 0
      go_upto_region 6 with fail
      go_cut [8] (fun s8 wx => s8 = .string B ∧ BrSt w wx tb T K V S)
      case first =>
        go_quiet (fail)
        go_wp2
        go_meet
        case rel => exact ⟨rfl, HBR.out.dr _⟩
      case rest =>
        obtain ⟨rfl, hbr⟩ := hcut
        clear HBR c0 s1 s2 f1 f2 hbe
        have HBR := Hid.mk2 hbr
        clear hbr
        have c0 := HBR.out.blk.cell 0
        obtain ⟨n1, hn1⟩ : ∃ n1, n1 = T.size - 1 := ⟨_, rfl⟩
        obtain ⟨T3, hT3⟩ : ∃ T3, T.extract 0 (T.size - 1) = T3 := ⟨_, rfl⟩
        have s3 : ∀ wx : World, (Instr.slice 9 (.string T) none (some (.int .i64 (n1 : Int))) none).run Tryz.prog wx = .ok (.string T3) wx := by
          intro wx
          rw [← hT3, hn1, run_slice_string_h wx 9 T Tryz.underlying9 .i64 _ (by omega) (by omega)]
          simp
        have HTT : Hid (tokened T3.toList = .bad 3 n1) := by rw [← hT3, hn1]; exact HEA.out
        have HL3 : Hid (T3.size ≤ maxLen) := by
          have : 400 ≤ maxLen := by decide
          rw [← hT3, Hid, ByteArray.size_extract]
          omega
        have e1 : wrap64 ((T.size : Int) - 1) = (n1 : Int) := by rw [IntWalk.wrap64_in _ ⟨by omega, by omega⟩]; omega
        have e2 : IntKind.i64.wrap ((T.size : Int) - 1) = (n1 : Int) := by rw [IntWalk.i64_in _ ⟨by omega, by omega⟩]; omega
        clear hT3 hn1 HEA HF hz h1 hm z1 z2
        go_wp2_with (first
          | (go_at_call_of 10 (Value.string B); refine (Print_bad B _ (HT.out.below HBR.out.bl) HLN.out HBK.out).mono ?_; rintro e w4 ⟨hb4, rfl⟩; replace HBR := Hid.mk2 (HBR.out.below hb4); clear hb4 c0; have c0 := HBR.out.blk.cell 0)
          | (go_at_call 11; refine (Check_pin B _ (HT.out.below HBR.out.bl) HLN.out HPIN.out).mono ?_; rintro e w5 ⟨hb5, rfl⟩; replace HBR := Hid.mk2 (HBR.out.below hb5); clear hb5 c0; have c0 := HBR.out.blk.cell 0)
          | (go_at_call 12; refine (Compile_pin B _ (HT.out.below HBR.out.bl) HLN.out HPIN.out (by decide)).mono ?_; rintro e w6 ⟨hb6, rfl⟩; replace HBR := Hid.mk2 (HBR.out.below hb6); clear hb6 c0; have c0 := HBR.out.blk.cell 0)
          | (go_at_call 13; refine (New_new _).mono ?_; rintro e w7 ⟨rfl, hb7⟩; replace HBR := Hid.mk2 (HBR.out.below hb7); clear hb7 c0; have c0 := HBR.out.blk.cell 0)
          | (go_at_call 14; refine (Load_pin B _ _ (HT.out.below HBR.out.bl) HLN.out HPIN.out (by decide)).mono ?_; rintro e w8 ⟨hb8, rfl⟩; replace HBR := Hid.mk2 (HBR.out.below hb8); clear hb8 c0; have c0 := HBR.out.blk.cell 0)
          | (go_at_call_of 10 (Value.string T3); refine (Print_bad T3 _ (HT.out.below HBR.out.bl) HL3.out HTT.out).mono ?_; rintro e w9 ⟨hb9, rfl⟩; replace HBR := Hid.mk2 (HBR.out.below hb9); clear hb9 c0; have c0 := HBR.out.blk.cell 0))
        go_ret
        exact ⟨HBR.out.bl, by simp⟩
end Go.Proofs.YtjjbmbjmdgoofaaGreatDoor
namespace Go.Proofs.YtjjbmbjmdgoofaaGreatDoor
open Go.RowKit Go.ChangeShapes Go.WideShapes Go.ChangeAt
theorem strs_of_trod {H : Type} {enc : TypeId × Value → H} {P : Program} {W : World} {sp : Nat → Bool} {hd : Bool} {t e : TypeId} {m fuel : Nat} {cs : List Value} {zs : List Txt} {q : List MemPlace} (ht : P.underlying t = some (.array m e)) (he : P.underlying e = some .string) (hc : P.cellsOf e = 1)
    (hd' : DataW.trod enc P W 0 sp hd fuel t cs = some (.agg (zs.map fun z => .lit (.string z)), q)) : ∀ (i : Nat) (z : Txt), zs[i]? = some z → cs[i]? = some (Value.string (bsOf z)) := by
  obtain ⟨xs, m1, rfl, hx, hlen, hxm, hel⟩ := DataW.trod_array ht hd'
  intro i z hz
  simp only [Prod.mk.injEq, DataW.agg.injEq] at hx
  have hl : zs.length = xs.length := by have := congrArg List.length hx.1; simpa using this
  have hi : i < zs.length := (List.getElem?_eq_some_iff.1 hz).1
  have h1 := hel i (by omega)
  rw [hc, List.getElem?_eq_getElem (by omega : i < xs.length)] at h1
  obtain ⟨k, e1, e2, _⟩ := DataW.trod_string he h1
  have h2 : (zs.map fun z => (DataW.lit (.string z) : DataW H))[i]? = (xs.map (·.1))[i]? := by rw [hx.1]
  rw [List.getElem?_map, List.getElem?_map, hz, List.getElem?_eq_getElem (by omega : i < xs.length), Option.map_some, Option.map_some, e2] at h2
  have hk : z = k.data.toList := by simpa using h2
  have hkb : bsOf z = k := by rw [hk]; cases k; simp [bsOf]
  rw [hkb]
  have h3 : ((cs.drop (i * 1)).take 1)[0]? = some (.string k) := by rw [e1]; rfl
  rw [List.getElem?_take, if_pos (by omega), List.getElem?_drop] at h3
  simpa using h3
theorem dWords : (Rows.laid_slots_token_words : DataW Unit) = .agg (tWords.map fun z => .lit (.string z)) := rfl
theorem dSigns : (Rows.laid_slots_token_signs : DataW Unit) = .agg (tSign.map fun z => .lit (.string z)) := rfl
def laidName (i : Nat) : String := ((Rows.brokenRow.laid[i]?).map (·.1)).getD default
theorem gWords : Tryz.prog.globalNamed (laidName 1) = some 3 := by kernel_rfl
theorem gSigns : Tryz.prog.globalNamed (laidName 2) = some 4 := by kernel_rfl
theorem tyWords : (Tryz.prog.globals[3]?).map (·.type) = some 207 := by kernel_rfl
theorem tySigns : (Tryz.prog.globals[4]?).map (·.type) = some 208 := by kernel_rfl
theorem undWords : Tryz.prog.underlying 207 = some (.array 19 9) := by kernel_rfl
theorem undSigns : Tryz.prog.underlying 208 = some (.array 12 9) := by kernel_rfl
theorem cellsStr : Tryz.prog.cellsOf 9 = 1 := by kernel_rfl
theorem table_str {W : World} {nm : String} {g t ty m : Nat} {cs : Array Value} {fuel : Nat} {p : List MemPlace} {zs : List Txt} {d : DataW Unit} (k : Nat) (hgk : Tryz.prog.globalNamed nm = some k) (htk : (Tryz.prog.globals[k]?).map (·.type) = some ty) (hu : Tryz.prog.underlying ty = some (.array m 9)) (hd0 : d = .agg (zs.map fun z => .lit (.string z)))
    (hg : Tryz.prog.globalNamed nm = some g) (ht : (Tryz.prog.globals[g]?).map (·.type) = some t) (hv : W.var? Tryz.prog nm = some cs) (hd : DataW.trod (fun _ => ()) Tryz.prog W 0 (fun _ => true) false fuel t cs.toList = some (d, p)) :
    ∀ (i : Nat) (z : Txt), zs[i]? = some z → W.cell? ⟨k, i, none⟩ = some (.string (bsOf z)) := by
  obtain rfl := Option.some.inj (hgk.symm.trans hg)
  obtain rfl := Option.some.inj (htk.symm.trans ht)
  subst hd0
  intro i z hz
  have h1 := strs_of_trod hu Tryz.underlying9 cellsStr hd i z hz
  rw [World.var?_cell hgk hv i]
  simpa using h1
theorem Tryz.own : ownKnob Tryz.prog.godebug = none := by kernel_rfl
theorem Tryz.laidOut : laidOutB Tryz.prog = true := by kernel_rfl
def laidAll : List (String × DataW Unit) := Rows.brokenRow.laid
theorem door_met (os : Os) (args : Array Value) : laidMetH Tryz.prog laidAll ((World.doorLaid Tryz.prog 34 os).forCall (fun _ _ => 0) ⟨#[], args, []⟩).memory :=
  laidMetH_of_parts3 (fuel := 8) (laidMet_of_run' 8 (by kernel_rfl) (by kernel_rfl)) (by kernel_rfl) (by kernel_rfl)
theorem glob_of_laid {W : World} (h : laidMetH Tryz.prog laidAll W) : GlobT W := by
  rw [MakeChecks.laidMetH_plain _ _ _ (by kernel_rfl)] at h
  obtain ⟨ps, ⟨g3, t3, cs3, f3, p3, q3, hg3, ht3, hv3, hd3, ⟨g4, t4, cs4, f4, p4, q4, hg4, ht4, hv4, hd4, ⟨g5, t5, cs5, f5, p5, q5, hg5, ht5, hv5, hd5, _, _⟩, _⟩, _⟩, _, _⟩ := h
  have hw := table_str 3 gWords tyWords undWords dWords hg4 ht4 hv4 hd4
  have ht := table_str 4 gSigns tySigns undSigns dSigns hg5 ht5 hv5 hd5
  have hlt : ∀ (k : Nat) (v : Value), W.cell? ⟨k, 0, none⟩ = some v → k < W.heap.size := fun k v hc => by
    by_cases h : k < W.heap.size
    · exact h
    · simp [World.cell?, Array.getElem?_eq_none (by omega : W.heap.size ≤ k)] at hc
  exact ⟨fun i hi => hw i _ (List.getElem?_eq_getElem hi), fun i hi => ht i _ (List.getElem?_eq_getElem hi), hlt _ _ (hw 0 _ rfl), hlt _ _ (ht 0 _ rfl)⟩
section
variable {H : Type} {enc : TypeId × Value → H} {P : Program} {w : World} {base : Nat} {spare : Nat → Bool} {held : Bool}
theorem trodAll_two {t1 t2 : TypeId} {args : Array Value} {ds : List (DataW H)} {ps : List MemPlace} (h : DataW.TrodAll enc P w base spare held [t1, t2] args.toList ds ps) :
    ∃ v1 v2 d1 d2 p1 p2, args = #[v1, v2] ∧ ds = [d1, d2] ∧ ps = p1 ++ p2 ∧ DataW.Trod enc P w base spare held t1 v1 d1 p1 ∧ DataW.Trod enc P w base spare held t2 v2 d2 p2 := by
  obtain ⟨v1, vs1, d1, ds1, p1, q1, hargs, rfl, rfl, hd1, h1⟩ := trodAll_cons h
  obtain ⟨v2, vs2, d2, ds2, p2, q2, rfl, rfl, rfl, hd2, h2⟩ := trodAll_cons h1
  obtain ⟨rfl, rfl, rfl⟩ := trodAll_nil h2
  exact ⟨v1, v2, d1, d2, p1, p2, by cases args; simp_all, rfl, by simp, hd1, hd2⟩
theorem in64_of_wf {n : Int} (h : (Lit.int .i64 n).wf = true) : In64 n := by
  simp [Lit.wf, IntKind.min, IntKind.max, IntKind.signed, IntKind.bits] at h
  unfold In64
  omega
theorem int_arg {r : Reach} {b0 : Nat} {t : TypeId} {v : Value} {d : DataW H} {ps : List MemPlace} (ht : P.underlying t = some (.int .i64)) (hval : Value.okWide P w r b0 t v) (h : DataW.Trod enc P w base spare held t v d ps) : ∃ n, v = .int .i64 n ∧ In64 n := by
  obtain ⟨n, rfl⟩ := okWide_int ht hval
  obtain ⟨fuel, hf⟩ := h
  obtain ⟨m, h1, _, h3⟩ := DataW.trod_int ht hf
  have : n = m := by simpa [Value.cells] using h1
  subst this
  exact ⟨n, rfl, in64_of_wf h3⟩
theorem str_arg {r : Reach} {b0 : Nat} {t : TypeId} {v : Value} {d : DataW H} {ps : List MemPlace} (ht : P.underlying t = some .string) (hval : Value.okWide P w r b0 t v) (h : DataW.Trod enc P w base spare held t v d ps) : ∃ s : ByteArray, v = .string s ∧ s.size ≤ maxLen := by
  obtain ⟨s, rfl⟩ := okWide_string ht hval
  obtain ⟨fuel, hf⟩ := h
  obtain ⟨m, h1, _, h3⟩ := DataW.trod_string ht hf
  have : s = m := by simpa [Value.cells] using h1
  subst this
  exact ⟨s, rfl, h3⟩
end
end Go.Proofs.YtjjbmbjmdgoofaaGreatDoor
namespace Go.Proofs.YtjjbmbjmdgoofaaGreatDoor
open Go.RowKit Go.ChangeShapes Go.WideShapes Go.ChangeAt
set_option maxRecDepth 100000 in
theorem broken_lifted (os : Os) (started : os.Started) (H : Type) (enc : TypeId × Value → H) :
    ReturnsInHanded {} Tryz.checked os 3 .any (fun w args => (Rows.brokenSpec.pre enc Tryz.prog Tryz.f3 [] false w args ∧ laidMetH Tryz.prog laidAll w) ∧ sizedMet enc Tryz.prog Tryz.f3 (OpenSpec.ofChange Rows.brokenSpec) false w args)
      (Rows.brokenSpec.post enc Tryz.prog Tryz.f3 false true false false) := by
  refine returnsInHanded_of_change_and (C := Tryz.checked) (X := fun w _ => laidMetH Tryz.prog laidAll w) (fun _ _ _ hh h => h.of_heap hh) Tryz.own started (by kernel_rfl) Tryz.func3
    (ChangeSpec.witness_shaped (enc := enc) (C := Tryz.checked) (os := os) (X := fun w _ => laidMetH Tryz.prog laidAll w) false (World.doorLaid Tryz.prog 34 os) #[.string ⟨#[]⟩, .int .i64 0] 8 rfl (World.shaped_of_RefB (by kernel_rfl) (by kernel_rfl)) (by kernel_rfl) (by kernel_rfl) (by kernel_rfl) (door_met os _)) ?_
  intro W base args ds gs before hval0 hW _ _ hL _
  have hval : ∀ (j : Nat) t v, Tryz.f3.params[j]? = some t → args[j]? = some v → Value.okWide Tryz.prog W .any base t v := hval0
  have hW' := hW
  have hlt := hW.lt
  obtain ⟨p, q, hA0, hV, rfl, hfz, hnd⟩ := hW
  have hA : DataW.TrodAll enc Tryz.prog W 0 (fun _ => true) true Tryz.f3.params.toList args.toList ds p := hA0
  rw [Tryz.params3] at hA hval
  obtain ⟨v1, v2, d1, d2, p1, p2, rfl, rfl, rfl, h1, h2⟩ := trodAll_two hA
  obtain ⟨rfl, rfl⟩ := trodVars_none hV
  simp only [List.append_nil] at hW' hlt
  obtain ⟨s, rfl, hs⟩ := str_arg Tryz.underlying9 (hval 0 9 v1 rfl rfl) h1
  obtain ⟨c, rfl, hc⟩ := int_arg Tryz.underlying3 (hval 1 3 v2 rfl rfl) h2
  refine (Broken_any s c hc hs W (glob_of_laid hL)).mono fun e W' ⟨hbl, he⟩ => ?_
  subst he
  exact ⟨_, rfl, ⟨_, _, _, [], _, [], hW', trodAll_mk1 (shut_bool Tryz.underlying4 _), trodAll_cons_mk (Below.trod Tryz.laidOut (by kernel_rfl) (of_decide_eq_true (by kernel_rfl)) h1 hbl (fun x hx => hlt x (by simp [hx]))) (trodAll_mk1 (Below.trod Tryz.laidOut (by kernel_rfl) (of_decide_eq_true (by kernel_rfl)) h2 hbl (fun x hx => hlt x (by simp [hx])))), rfl, hbl.frame _, fun h => by cases h⟩⟩
theorem broken_holds : Rows.BrokenSaid :=
  OpenClaim.holds_of_wide 3 Tryz.f3 rfl rfl rfl rfl rfl rfl rfl ⟨rfl, rfl, rfl, rfl, rfl⟩ rfl rfl rfl rfl rfl (by kernel_rfl) Tryz.func3 (by kernel_rfl)
    (of_decide_eq_true (by kernel_rfl)) (by unfold Func.isWrapper; first | (rw [if_pos (by decide +kernel)]; kernel_rfl) | (rw [if_neg (by decide +kernel)]; exact ⟨rfl, rfl⟩))
    (fun os started H enc _ => broken_lifted os started H enc)
end Go.Proofs.YtjjbmbjmdgoofaaGreatDoor
