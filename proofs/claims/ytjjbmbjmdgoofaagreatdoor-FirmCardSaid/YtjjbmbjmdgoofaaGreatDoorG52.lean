/-
  Firm, for all arguments.
-/
import Derived.Test.YtjjbmbjmdgoofaaGreatDoorG47
import Derived.Test.YtjjbmbjmdgoofaaGreatDoorG51
import Derived.Test.YtjjbmbjmdgoofaaGreatDoorG38
import Derived.Test.YtjjbmbjmdgoofaaGreatDoorRows
import Derived.ProofKit
import Derived.LaidMore
import Derived.OpenShut
import Derived.Stop.Joined
set_option linter.unusedVariables false
set_option linter.unusedSimpArgs false
namespace Go.Proofs.YtjjbmbjmdgoofaaGreatDoor
open Go.RowKit Go.Deep
theorem reads_but {w w' : World} {fb : Nat} {v : Value} {n : Nat} {xs : List Value} (h : Reads w v n xs) (hb : But fb w w') (hv : ∀ k, v.ownBlock = some k → k ≠ fb) : Reads w' v n xs := by
  rcases h with h | ⟨g, o, cap, rfl, hn, hlt, hc⟩
  · exact .inl h
  · have hne := hv g rfl
    refine .inr ⟨g, o, cap, rfl, hn, Nat.lt_of_lt_of_le hlt hb.size, fun j u hu => ?_⟩
    have := hc j u hu
    unfold World.cell? at this ⊢
    rw [hb.block g hne hlt]
    exact this
structure FiSt (w1 wx : World) (sb : Nat) (l : List Bn) (lv : Value) (xb : Nat) (x : Itm) (rb : Nat) (bv : Value) (bk : List Plc) : Prop where
  st : StoreAt wx sb l fzI
  rd : Reads wx lv l.length (cellsB l)
  ld : ∀ k, lv.ownBlock = some k → k ≠ sb
  it : Blk wx xb #[.int .i64 x.size, .int .i64 x.speed, .int .i64 x.need] 28
  xn : xb ≠ sb
  rk : Blk wx rb #[.int .i64 0, .int .i64 0, .int .i64 0, bv] 52
  rn : rb ≠ sb
  rq : Reads wx bv bk.length (cellsQ bk)
  bd : ∀ k, bv.ownBlock = some k → k ≠ sb
  bl : Below w1.heap.size w1 wx
  sw : w1.heap.size ≤ sb
theorem FiSt.below {w' : World} {w1 wx : World} {sb : Nat} {l : List Bn} {lv : Value} {xb : Nat} {x : Itm} {rb : Nat} {bv : Value} {bk : List Plc} (h : FiSt w1 wx sb l lv xb x rb bv bk) (hb : Below wx.heap.size wx w') : FiSt w1 w' sb l lv xb x rb bv bk :=
  ⟨h.st.below hb, h.rd.below hb, h.ld, h.it.below hb h.it.lt, h.xn, h.rk.below hb h.rk.lt, h.rn, h.rq.below hb, h.bd, h.bl.trans (hb.mono h.bl.size), h.sw⟩
theorem FiSt.next {w' : World} {w1 wx : World} {sb : Nat} {l : List Bn} {lv : Value} {xb : Nat} {x : Itm} {rb : Nat} {bv : Value} {bk : List Plc} (h : FiSt w1 wx sb l lv xb x rb bv bk) (hs : StoreAt w' sb l fzI ∧ But sb wx w') : FiSt w1 w' sb l lv xb x rb bv bk :=
  ⟨hs.1, reads_but h.rd hs.2 h.ld, h.ld, h.it.but hs.2 h.xn, h.xn, h.rk.but hs.2 h.rn, h.rn, reads_but h.rq hs.2 h.bd, h.bd, h.bl.trans (hs.2.below h.sw h.bl.size), h.sw⟩
theorem find_far {l : List Bn} {id : Int} (h : ∀ b ∈ l, b.id ≠ id) : findB l id = none := by
  unfold findB
  rw [List.find?_eq_none]
  intro b hb
  simpa using h b hb
set_option maxHeartbeats 3200000 in
set_option maxRecDepth 100000 in
theorem Firm_any (s : ByteArray) (hs : s.size ≤ maxLen) (c : Int) (hc : In64 c) (w : World) (hg : GlobP w) (hgt : GlobT w) :
    Calls Tryz.prog 5 #[.string s, .int .i64 c] w fun e w' => Below w.heap.size w w' ∧ e = .returned (.bool true) := by
  have HS := Hid.mk2 hs
  have HC := Hid.mk2 hc
  have HP := Hid.mk2 hg
  have HT := Hid.mk2 hgt
  clear hs hc hg hgt
  go_enter Tryz.func5, Tryz.ntmps5
  go_upto_region 5 with (first
    | (go_at_call 15; refine (shelf_ids s HS.out _).mono ?_; rintro e w1 ⟨hb1, l, a, c1, hsh, hl1, hl12, hids, rfl, hown⟩; have HSL := Hid.mk2 hsh; have HID := Hid.mk2 hids; have HOW := Hid.mk2 hown; have HB1 := Hid.mk2 hb1; clear hsh hown hb1 hids)
    | (go_at_call 16; refine (filled_known fzB (by decide) (by rw [fzB_list]; exact fz_known) l _ _ (HT.out.below HB1.out) ⟨(HP.out.below HB1.out).bytes, (HP.out.below HB1.out).size.1⟩ HSL.out hl12 (reads_of_own HOW.out)).mono ?_; rintro e w2 ⟨rfl, hst, hb2⟩; have HS1 : Hid (StoreAt w2 w1.heap.size l fzI) := hst; have HRL := Hid.mk2 (reads_of_own (own_below HOW.out hb2)); have HLD : Hid (∀ k, (Value.slice a l.length c1).ownBlock = some k → k ≠ w1.heap.size) := (fun k hk => by have := reads_own (reads_of_own HOW.out) k hk; omega); have HB2 := Hid.mk2 hb2; have hs2 := hb2.size; have hlt2 := hst.lt; clear hst hb2))
  have HPT : Hid (GlobP w1 ∧ GlobT w1) := ⟨HP.out.below HB1.out, HT.out.below HB1.out⟩
  have hsw := HB1.out.size
  clear HP HT HOW
  obtain ⟨sb, hsb⟩ : ∃ sb, sb = w1.heap.size := ⟨_, rfl⟩
  rw [← hsb] at HS1 HLD hs2 hlt2 ⊢
  have hsw2 : w1.heap.size ≤ sb := by omega
  clear hsb
  go_upto_region 6 with (go_at_call 7; refine (item_any c c c HC.out HC.out HC.out _).mono ?_; rintro e w5 ⟨⟨x, hx, rfl⟩, hb5⟩; unfold itmA; have HX := Hid.mk2 hx; have hs5 := hb5.size; replace HS1 := Hid.mk2 ((HS1.out.below hb5).below (box3 w5 (.cells #[.int .i64 x.size, .int .i64 x.speed, .int .i64 x.need] 28))); replace HRL := Hid.mk2 ((HRL.out.below hb5).below (box3 w5 (.cells #[.int .i64 x.size, .int .i64 x.speed, .int .i64 x.need] 28))); replace HB2 := Hid.mk2 (im_al (im_step HB2.out hb5) (.cells #[.int .i64 x.size, .int .i64 x.speed, .int .i64 x.need] 28)); have HIT := Hid.mk2 (Blk.new w5 #[.int .i64 x.size, .int .i64 x.speed, .int .i64 x.need] 28); clear hx hb5)
  generalize hwi : w5.alloc (.cells #[.int .i64 x.size, .int .i64 x.speed, .int .i64 x.need] 28) = wi at *
  generalize hxb : w5.heap.size = xb at *
  have hxs : sb < xb := by omega
  clear hwi hxb hs5 HC
  obtain ⟨bk, hbk⟩ : ∃ bk, (bestL (fun y => (fzP x y).v) l).take (12 : Int).toNat = bk := ⟨_, rfl⟩
  have hbl : bk.length = l.length := by
    have h5 : (12 : Int).toNat = 12 := rfl
    rw [← hbk, List.length_take, bestL_length, h5]
    omega
  have HBK := Hid.mk2 hbk
  have HBE : Hid (((bk.length : Int) == (l.length : Int)) = true) := by rw [Hid, hbl]; simp
  have hbl12 : bk.length ≤ 1000 := by omega
  have HL100 : Hid (l.length ≤ 100) := by rw [Hid]; omega
  have HSC : Hid (∀ y ∈ l, ScoresAt fzI x (fun y => (fzP x y).v) y) := fun y hy => fz_scores HX.out (HSL.out.ok y hy)
  have HOK : Hid (∀ b ∈ l, b.Ok) := fun b hb => HSL.out.ok b hb
  have HRANK : Hid (∀ wx, StoreAt wx sb l fzI → GlobY wx → Calls Tryz.prog 17 #[.pointer (some ⟨sb, 0, none⟩), .agg #[.int .i64 x.size, .int .i64 x.speed, .int .i64 x.need], .int .i64 12] wx fun e w' => Below wx.heap.size wx w' ∧ ∃ a' c', e = .returned (.agg #[.int .i64 0, .int .i64 0, .int .i64 0, .slice a' bk.length c']) ∧ Reads w' (.slice a' bk.length c') bk.length (cellsQ bk) ∧ (∀ k, (Value.slice a' bk.length c').ownBlock = some k → k ≠ sb)) := fun wx h1 h2 => by
    refine (Rank_any x HX.out (fun y => (fzP x y).v) sb l fzI fzI_some HL100.out HSC.out 12 (by decide) (by omega) wx h1 h2).mono ?_
    rintro e w' ⟨hb, v', rfl, ho⟩
    rw [HBK.out] at ho
    obtain ⟨a', c', hv⟩ := (reads_of_own ho).shape
    subst hv
    refine ⟨hb, a', c', rfl, reads_of_own ho, fun k hk => ?_⟩
    have := (ho.lt k hk).1
    have := h1.lt
    omega
  clear hbk hbl HBK HSC
  have i0 := HIT.out.cell 0
  have i1 := HIT.out.cell 1
  have i2 := HIT.out.cell 2
  have hil := HIT.out.lt
  go_upto_region 7 with (go_at_call 17; refine (HRANK.out _ HS1.out (HPT.out.1.below HB2.out).y).mono ?_; rintro e w6 ⟨hb6, ba, bc, rfl, hrq, hbd⟩; have hs6 := hb6.size; have HF : Hid (FiSt w1 (w6.alloc (.cells #[.int .i64 0, .int .i64 0, .int .i64 0, .slice ba bk.length bc] 52)) sb l (.slice a l.length c1) xb x w6.heap.size (.slice ba bk.length bc) bk) := ⟨(HS1.out.below hb6).below (box3 _ _), (HRL.out.below hb6).alloc _, HLD.out, (HIT.out.below hb6 HIT.out.lt).alloc _, by omega, Blk.new w6 _ _, by omega, hrq.alloc _, hbd, im_al (im_step HB2.out hb6) _, by omega⟩; clear hb6 hrq hbd i0 i1 i2 hil)
  generalize hrb : w6.heap.size = rb at *
  generalize hwr : w6.alloc (.cells #[.int .i64 0, .int .i64 0, .int .i64 0, .slice ba bk.length bc] 52) = wk at *
  clear hrb hwr HS1 HRL HIT HB2 HLD
  have HN1 : Hid (findB l 1000 = none) := find_far (fun b hb => by have := HID.out b hb; omega)
  have HN2 : Hid (findB l (-9223372036854775808) = none) := find_far (fun b hb => by have := (HOK.out b hb).1; omega)
  have HIMG : Hid (∀ wx, FiSt w1 wx sb l (.slice a l.length c1) xb x rb (.slice ba bk.length bc) bk → Calls Tryz.prog 21 #[.pointer (some ⟨sb, 0, none⟩)] wx fun e w' => e = .returned (.bool true) ∧ Below wx.heap.size wx w') := fun wx h => by
    obtain ⟨a', c', g1, _⟩ := h.st.ok
    exact images_any sb _ fzI wx (HPT.out.1.below h.bl) g1
  go_upto_region 14 with (first
    | (go_at_call 20; refine (policies_any _ _ (HPT.out.2.below HF.out.bl)).mono ?_; rintro e w7 ⟨rfl, hb⟩; replace HF := Hid.mk2 (HF.out.below hb); clear hb)
    | (go_at_call 21; refine (HIMG.out _ HF.out).mono ?_; rintro e w8 ⟨rfl, hb⟩; replace HF := Hid.mk2 (HF.out.below hb); clear hb)
    | (go_at_call 22; refine (strange_any sb l fzI fzI_some HL100.out w1 _ HF.out.sw HF.out.bl HPT.out.1 HF.out.st).mono ?_; rintro e w9 ⟨rfl, hs⟩; replace HF := Hid.mk2 (HF.out.next hs); clear hs)
    | (go_at_call_of 23 (Value.int IntKind.i64 1000); refine (absent_any sb l fzI 1000 HN1.out _ HF.out.st HL100.out HOK.out).mono ?_; rintro e w10 ⟨rfl, hs⟩; replace HF := Hid.mk2 (HF.out.next hs); clear hs)
    | (go_at_call 23; refine (absent_any sb l fzI (-9223372036854775808) HN2.out _ HF.out.st HL100.out HOK.out).mono ?_; rintro e w11 ⟨rfl, hs⟩; replace HF := Hid.mk2 (HF.out.next hs); clear hs))
  go_wp2
  go_loopw [15] (fun vi wr => ∃ i : Nat, i ≤ l.length ∧ vi = .int .i64 i ∧ FiSt w1 wr sb l (.slice a l.length c1) xb x rb (.slice ba bk.length bc) bk) (fun i _ => l.length - (intOf i).toNat)
  case atStart => exact ⟨0, Nat.zero_le _, rfl, HF.out⟩
  case round =>
    obtain ⟨i, hi, rfl, hq⟩ := hrel
    clear HF
    have HF := Hid.mk2 hq
    clear hq
    by_cases hlt : i < l.length
    · have hd : decide ((i : Int) < (l.length : Int)) = true := by simp; omega
      obtain ⟨g, o, cap, hcut, hcap, hgl, hcc⟩ := HF.out.rd.pos (by omega)
      cases hcut
      obtain ⟨c0, c1', c2, c3, c4⟩ := bin_cells hcc i hlt
      have HFB := Hid.mk2 (findB_at HSL.out i hlt)
      have HBO := Hid.mk2 (HOK.out _ (List.getElem_mem hlt))
      generalize hx' : l[i] = b at *
      clear hcc hx'
      go_wp2_with (go_at_call 24; refine (wrong_any sb l fzI b HFB.out HBO.out _ HF.out.st HL100.out HOK.out).mono ?_; rintro e w12 ⟨rfl, hs⟩; replace HF := Hid.mk2 (HF.out.next hs); clear hs c0 c1' c2 c3 c4)
      go_roundw
      case rel => exact ⟨i + 1, by omega, by go_num, HF.out⟩
      case measure => simp [intOf]; omega
    · have hd : decide ((i : Int) < (l.length : Int)) = false := by simp; omega
      go_upto_if 82 with fail
      go_cut [] (fun wx => FiSt w1 wx sb l (.slice a l.length c1) xb x rb (.slice ba bk.length bc) bk)
      case first =>
        by_cases h12 : l.length = 12
        · have he : ((l.length : Int) == 12) = true := by simp; omega
          have HAK : Hid (addK l ⟨1000, 0, 1, 0, 0⟩ = 11) := by
            rw [Hid, addK, if_neg (by decide), if_neg (by show ¬ (findB l 1000).isSome = true; rw [HN1.out]; decide), if_pos (by omega)]
          clear h12
          go_wp2_with (go_at_call 25; refine (add_no (b := ⟨1000, 0, 1, 0, 0⟩) HAK.out (by decide) sb fzI _ HF.out.st HL100.out).mono ?_; rintro e w13 ⟨rfl, hs⟩; replace HF := Hid.mk2 (HF.out.next hs); clear hs)
          go_meet
          case rel => exact HF.out
        · have he : ((l.length : Int) == 12) = false := by simp; omega
          clear h12
          go_wp2
          go_meet
          case rel => exact HF.out
      case rest =>
        clear HF
        have HF := Hid.mk2 hcut
        clear hcut
        have i0 := HF.out.it.cell 0; have i1 := HF.out.it.cell 1; have i2 := HF.out.it.cell 2; have r0 := HF.out.rk.cell 0; have r3 := HF.out.rk.cell 3; have hil := HF.out.it.lt; have hrl := HF.out.rk.lt
        have hbe := HBE.out
        go_wp2_with (first
          | (go_at_call 26; refine (stBins_any sb l fzI _ HF.out.st HL100.out).mono ?_; rintro e w14 ⟨hb, na, nc, rfl, hno⟩; have HNO := Hid.mk2 (reads_of_own hno); replace HF := Hid.mk2 (HF.out.below hb); clear hb hno i0 i1 i2 r0 r3 hil hrl; have i0 := HF.out.it.cell 0; have i1 := HF.out.it.cell 1; have i2 := HF.out.it.cell 2; have r0 := HF.out.rk.cell 0; have r3 := HF.out.rk.cell 3; have hil := HF.out.it.lt; have hrl := HF.out.rk.lt)
          | (go_at_call 17; refine (HRANK.out _ HF.out.st (HPT.out.1.below HF.out.bl).y).mono ?_; rintro e w15 ⟨hb, da, dc, rfl, hrq, hbd⟩; have HDQ := Hid.mk2 (hrq.alloc (.cells #[.int .i64 0, .int .i64 0, .int .i64 0, .slice da bk.length dc] 52)); have HDK := Hid.mk2 (Blk.new w15 #[.int .i64 0, .int .i64 0, .int .i64 0, .slice da bk.length dc] 52); replace HNO := Hid.mk2 ((HNO.out.below hb).alloc (.cells #[.int .i64 0, .int .i64 0, .int .i64 0, .slice da bk.length dc] 52)); replace HF := Hid.mk2 ((HF.out.below hb).below (box3 w15 (.cells #[.int .i64 0, .int .i64 0, .int .i64 0, .slice da bk.length dc] 52))); clear hb hrq hbd i0 i1 i2 r0 r3 hil hrl; have i0 := HF.out.it.cell 0; have i1 := HF.out.it.cell 1; have i2 := HF.out.it.cell 2; have r0 := HF.out.rk.cell 0; have r3 := HF.out.rk.cell 3; have hil := HF.out.it.lt; have hrl := HF.out.rk.lt; have d0 := HDK.out.cell 0; have d3 := HDK.out.cell 3; have hdl := HDK.out.lt)
          | (go_at_call 27; refine (sameBins_any l _ _ _ HNO.out HF.out.rd HL100.out).mono ?_; rintro e w16 ⟨rfl, hb⟩; replace HDQ := Hid.mk2 (HDQ.out.below hb); replace HDK := Hid.mk2 (HDK.out.below hb HDK.out.lt); replace HF := Hid.mk2 (HF.out.below hb); clear hb i0 i1 i2 r0 r3 hil hrl d0 d3 hdl; have r0 := HF.out.rk.cell 0; have r3 := HF.out.rk.cell 3; have hrl := HF.out.rk.lt; have d0 := HDK.out.cell 0; have d3 := HDK.out.cell 3; have hdl := HDK.out.lt)
          | (go_at_call 28; refine (samePlaces_any bk hbl12 _ _ _ HF.out.rq HDQ.out).mono ?_; rintro e w17 ⟨rfl, hb⟩; replace HDK := Hid.mk2 (HDK.out.below hb HDK.out.lt); replace HF := Hid.mk2 (HF.out.below hb); clear hb r0 r3 hrl d0 d3 hdl; have r0 := HF.out.rk.cell 0; have r3 := HF.out.rk.cell 3; have hrl := HF.out.rk.lt; have d0 := HDK.out.cell 0; have d3 := HDK.out.cell 3; have hdl := HDK.out.lt))
        go_ret
        exact ⟨HB1.out.trans (HF.out.bl.mono HB1.out.size), by simp⟩
end Go.Proofs.YtjjbmbjmdgoofaaGreatDoor
namespace Go.Proofs.YtjjbmbjmdgoofaaGreatDoor
open Go.RowKit Go.ChangeShapes Go.WideShapes Go.ChangeAt
theorem ints_of_trod {H : Type} {enc : TypeId × Value → H} {P : Program} {W : World} {sp : Nat → Bool} {hd : Bool} {t e : TypeId} {m fuel : Nat} {cs : List Value} {zs : List Int} {q : List MemPlace} (ht : P.underlying t = some (.array m e)) (he : P.underlying e = some (.int .i64)) (hc : P.cellsOf e = 1)
    (hd' : DataW.trod enc P W 0 sp hd fuel t cs = some (.agg (zs.map fun z => .lit (.int .i64 z)), q)) : ∀ (i : Nat) (z : Int), zs[i]? = some z → cs[i]? = some (Value.int .i64 z) := by
  obtain ⟨xs, m1, rfl, hx, hlen, hxm, hel⟩ := DataW.trod_array ht hd'
  intro i z hz
  simp only [Prod.mk.injEq, DataW.agg.injEq] at hx
  have hl : zs.length = xs.length := by have := congrArg List.length hx.1; simpa using this
  have hi : i < zs.length := (List.getElem?_eq_some_iff.1 hz).1
  have h1 := hel i (by omega)
  rw [hc, List.getElem?_eq_getElem (by omega : i < xs.length)] at h1
  obtain ⟨k, e1, e2, _⟩ := DataW.trod_int he h1
  have h2 : (zs.map fun z => (DataW.lit (.int .i64 z) : DataW H))[i]? = (xs.map (·.1))[i]? := by rw [hx.1]
  rw [List.getElem?_map, List.getElem?_map, hz, List.getElem?_eq_getElem (by omega : i < xs.length), Option.map_some, Option.map_some, e2] at h2
  have hk : k = z := by simpa using h2.symm
  subst hk
  have h3 : ((cs.drop (i * 1)).take 1)[0]? = some (.int .i64 k) := by rw [e1]; rfl
  rw [List.getElem?_take, if_pos (by omega), List.getElem?_drop] at h3
  simpa using h3
def tabBytes : List Int := [8, 1, 0, 0, 0, 0, 0, 0, 0, 0, 0, 0, 0, 2, 2, 2, 0, 0]
def tabTakes : List Int := [0, 0, 1, 1, 2, 2, 2, 2, 2, 2, 2, 2, 2, 0, 1, 1, 1, 0]
def tabLays : List Int := [1, 1, 1, 1, 1, 1, 1, 1, 1, 1, 1, 1, 1, 0, 0, 0, 0, 0]
theorem tabBytes_eq : ∀ c, c < 18 → tabBytes[c]? = some ((behindN c : Nat) : Int) := by decide
theorem tabTakes_eq : ∀ c, c < 18 → tabTakes[c]? = some ((takesN c : Nat) : Int) := by decide
theorem tabLays_eq : ∀ c, c < 18 → tabLays[c]? = some ((laysN c : Nat) : Int) := by decide
theorem dBytes : (Rows.laid_slots_program_bytesBehind : DataW Unit) = .agg (tabBytes.map fun z => .lit (.int .i64 z)) := rfl
theorem dTakes : (Rows.laid_slots_program_takes : DataW Unit) = .agg (tabTakes.map fun z => .lit (.int .i64 z)) := rfl
theorem dLays : (Rows.laid_slots_program_lays : DataW Unit) = .agg (tabLays.map fun z => .lit (.int .i64 z)) := rfl
def laidName (i : Nat) : String := ((Rows.firmRow.laid[i]?).map (·.1)).getD default
theorem gBytes : Tryz.prog.globalNamed (laidName 0) = some 0 := by kernel_rfl
theorem gTakes : Tryz.prog.globalNamed (laidName 1) = some 1 := by kernel_rfl
theorem gLays : Tryz.prog.globalNamed (laidName 2) = some 2 := by kernel_rfl
theorem tyBytes : (Tryz.prog.globals[0]?).map (·.type) = some 202 := by kernel_rfl
theorem tyTakes : (Tryz.prog.globals[1]?).map (·.type) = some 202 := by kernel_rfl
theorem tyLays : (Tryz.prog.globals[2]?).map (·.type) = some 202 := by kernel_rfl
theorem cellsInt : Tryz.prog.cellsOf 3 = 1 := by kernel_rfl
theorem table_of {W : World} {nm : String} {g t : Nat} {cs : Array Value} {fuel : Nat} {p : List MemPlace} {zs : List Int} {d : DataW Unit} (k : Nat) (hgk : Tryz.prog.globalNamed nm = some k) (htk : (Tryz.prog.globals[k]?).map (·.type) = some 202) (hd0 : d = .agg (zs.map fun z => .lit (.int .i64 z)))
    (hg : Tryz.prog.globalNamed nm = some g) (ht : (Tryz.prog.globals[g]?).map (·.type) = some t) (hv : W.var? Tryz.prog nm = some cs) (hd : DataW.trod (fun _ => ()) Tryz.prog W 0 (fun _ => true) false fuel t cs.toList = some (d, p)) :
    ∀ (i : Nat) (z : Int), zs[i]? = some z → W.cell? ⟨k, i, none⟩ = some (.int .i64 z) := by
  obtain rfl := Option.some.inj (hgk.symm.trans hg)
  obtain rfl := Option.some.inj (htk.symm.trans ht)
  subst hd0
  intro i z hz
  have h1 := ints_of_trod Tryz.underlying202 Tryz.underlying3 cellsInt hd i z hz
  rw [World.var?_cell hgk hv i]
  simpa using h1
end Go.Proofs.YtjjbmbjmdgoofaaGreatDoor
