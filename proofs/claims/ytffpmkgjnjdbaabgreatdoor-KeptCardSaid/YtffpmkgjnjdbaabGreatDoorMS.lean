/-
  Bins out of raw bytes: shelf; are two lists of bins the same.
  A move: change, moved.
  A move of one bin: moved.
-/
import Derived.Test.YtffpmkgjnjdbaabGreatDoorMR
set_option linter.unusedVariables false
set_option linter.unusedSimpArgs false
namespace Go.Proofs.YtffpmkgjnjdbaabGreatDoor
open Go.RowKit

theorem cell_five_at (w : World) (x y z t u : Value) (e : TypeId) (b : Nat) (hb : b = w.heap.size) : ∀ j v, [x, y, z, t, u][j]? = some v → (w.alloc (.cells #[x, y, z, t, u] e)).cell? ((⟨b, 0, none⟩ : Addr).add j) = some v := by
  subst hb
  exact cell_five w x y z t u e
theorem own_step2 {w wr w2 : World} {base : Nat} {acc : List Bn} {v v' : Value} {b : Bn} {e : TypeId} {o : Obj} (hB : w.heap.size ≤ base) (hbel : Below w.heap.size w wr)
    (hown2 : w2.ownsRow base e 5 v' (acc.length + 1) (cellsB acc ++ [.int .i64 b.id, .int .i64 b.zone, .int .i64 b.cap, .int .i64 b.used, .int .i64 b.has])) (hg : (wr.alloc o).grownBy w2 v.ownBlock) (hown1 : wr.ownsRow base e 5 v acc.length (cellsB acc)) :
    w2.ownsRow base e 5 v' (acc ++ [b]).length (cellsB (acc ++ [b])) ∧ Below w.heap.size w w2 := by
  have hs1 := hbel.size
  refine ⟨?_, ?_⟩
  · rw [cellsB_snoc]
    simp only [cellB, List.length_append, List.length_cons, List.length_nil]
    exact hown2
  · exact (hbel.alloc (by omega) o).grown hg (by simp; omega) (fun k hk => by have := (hown1.lt k hk).1; omega)
theorem FeedAt.grown {w w' : World} {fb : Nat} {row : Option Nat} (h : FeedAt w fb) (hg : w.grownBy w' row) (hne : some fb ≠ row) : FeedAt w' fb := by
  obtain ⟨s, k, h1, h2⟩ := h.ok
  refine ⟨s, k, ?_, h2⟩
  unfold Blk; rw [hg.block fb h1.lt hne]; exact h1
theorem feed_new (w : World) (s : ByteArray) (hs : s.size ≤ maxLen) : FeedAt (w.alloc (.cells #[.string s, .int .i64 0] 31)) w.heap.size := ⟨s, 0, Blk.new w _ _, Nat.zero_le _, hs⟩
/-- So far made. -/
structure Made (w wr : World) (v : Value) (id : Int) (l : List Bn) : Prop where
  up : Shelf l
  lt : ∀ x ∈ l, x.id < id
  own : wr.ownsRow (w.heap.size + 1) 25 5 v l.length (cellsB l)
  fed : FeedAt wr w.heap.size
  bl : Below w.heap.size w wr
theorem Made.but {w wr w' : World} {v : Value} {id : Int} {l : List Bn} (h : Made w wr v id l) (hb : But w.heap.size wr w') (hf : FeedAt w' w.heap.size) : Made w w' v id l := by
  refine ⟨h.up, h.lt, own_but h.own hb fun k hk => ?_, hf, h.bl.trans (hb.below (Nat.le_refl _) h.bl.size)⟩
  have := (h.own.lt k hk).1
  omega
theorem Made.al {w wr : World} {v : Value} {id : Int} {l : List Bn} (h : Made w wr v id l) (o : Obj) : Made w (wr.alloc o) v id l := h.but (But.of (box3 wr o)) (h.fed.al o)
theorem Made.more {w wr : World} {v : Value} {id id' : Int} {l : List Bn} (h : Made w wr v id l) (hi : id ≤ id') : Made w wr v id' l := ⟨h.up, fun x hx => by have := h.lt x hx; omega, h.own, h.fed, h.bl⟩
theorem Made.snoc {w wr w2 : World} {v v' : Value} {id : Int} {l : List Bn} {y : Bn} {o : Obj} (h : Made w wr v id l) (hy : y.Ok) (hid : y.id = id)
    (hown2 : w2.ownsRow (w.heap.size + 1) 25 5 v' (l.length + 1) (cellsB l ++ [.int .i64 y.id, .int .i64 y.zone, .int .i64 y.cap, .int .i64 y.used, .int .i64 y.has])) (hg : (wr.alloc o).grownBy w2 v.ownBlock) : Made w w2 v' (id + 1) (l ++ [y]) := by
  obtain ⟨h1, h2⟩ := own_step2 (by omega) h.bl hown2 hg h.own
  refine ⟨h.up.snoc y (fun x hx => by rw [hid]; exact h.lt x hx) hy, fun x hx => ?_, h1, (h.fed.al o).grown hg ?_, h2⟩
  · rcases List.mem_append.1 hx with h3 | h3
    · have := h.lt x h3; omega
    · simp at h3; subst h3; omega
  · intro he
    have := (h.own.lt w.heap.size he.symm).1
    omega
set_option maxHeartbeats 2000000 in
set_option maxRecDepth 100000 in
theorem shelf_any (s : ByteArray) (hs : s.size ≤ maxLen) (w : World) :
    Calls Tryz.prog 13 #[.string s] w fun e w' => Below w.heap.size w w' ∧ ∃ l a c, Shelf l ∧ 1 ≤ l.length ∧ l.length ≤ 12 ∧ e = .returned (.slice a l.length c) ∧ w'.ownsRow w.heap.size 25 5 (.slice a l.length c) l.length (cellsB l) := by
  obtain ⟨i0, hi0, hz0, hz1, hz2⟩ := info_parts Tryz.infoBin
  have HM : Hid (Made w (w.alloc (.cells #[.string s, .int .i64 0] 31)) (.slice none 0 0) 0 []) := ⟨Shelf.nil, by simp, World.ownsRow_nil _ _ _ _, feed_new w s hs, box3 w _⟩
  clear hs
  go_enter Tryz.func13, Tryz.ntmps13
  go_wp2_with (first
    | (go_at_call_of 36 (Value.int IntKind.i64 12); refine (next_any 12 (by omega) _ _ HM.out.fed).mono ?_; rintro e w1 ⟨⟨r1, h1, k1, rfl⟩, hF, hB⟩; replace HM := Hid.mk2 (HM.out.but hB hF); clear hF hB)
    | (go_at_call_of 36 (Value.int IntKind.i64 50); refine (next_any 50 (by omega) _ _ HM.out.fed).mono ?_; rintro e w2 ⟨⟨r2, h2, k2, rfl⟩, hF, hB⟩; replace HM := Hid.mk2 (HM.out.but hB hF); clear hF hB))
  obtain ⟨n, hn⟩ : ∃ n : Nat, (n : Int) = 1 + r1 := ⟨(1 + r1).toNat, by omega⟩
  have hn1 : 1 ≤ n ∧ n ≤ 12 := by omega
  rw [← hn]
  clear hn h1 k1
  go_loopw [5, 6, 7] (fun v vid vi wr => ∃ (i : Nat) (id : Int) (l : List Bn), i ≤ n ∧ vi = .int .i64 i ∧ l.length = i ∧ vid = .int .i64 id ∧ 0 ≤ id ∧ id ≤ 50 + 41 * i ∧ Made w wr v id l) (fun _ _ i _ => n - (intOf i).toNat)
  case atStart => exact ⟨0, r2, [], Nat.zero_le _, rfl, rfl, rfl, h2, by omega, HM.out.more h2⟩
  case round =>
    obtain ⟨i, id, l, hi, rfl, hl, rfl, hid0, hid1, hm⟩ := hrel
    have HQ := Hid.mk2 hm
    have HL := Hid.mk2 hl
    have hl12 : l.length ≤ 12 := by omega
    clear hm hl HM
    by_cases hlt : i < n
    · have hd : decide ((i : Int) < (n : Int)) = true := by simp; omega
      go_wp2_with (first
        | (go_at_call 34; refine (bin_any id (by omega) _ _ HQ.out.fed).mono ?_; rintro e w3 ⟨⟨y, hy, hyid, rfl⟩, hF, hB⟩; unfold bnA; replace HQ := Hid.mk2 ((HQ.out.but hB hF).al (.cells #[.int .i64 y.id, .int .i64 y.zone, .int .i64 y.cap, .int .i64 y.used, .int .i64 y.has] 25)); have HY := Hid.mk2 hy; have HYI := Hid.mk2 hyid; have hsz3 : w.heap.size < w3.heap.size := hF.lt; clear hF hB hy hyid)
        | (at_builtin; refine wpList_append_own _ rfl (.tmp 25) (.tmp 27) 45 rfl (w.heap.size + 1) 25 i0 (.agg #[.int .i64 0, .int .i64 0, .int .i64 0, .int .i64 0, .int .i64 0]) 5 40 Tryz.underlying45 hi0 hz0 hz1 hz2 rfl (by decide) _ _ _ rfl (HQ.out.own.alloc _) ⟨w3.heap.size + 1, 0, none⟩ 1 1 [.int .i64 y.id, .int .i64 y.zone, .int .i64 y.cap, .int .i64 y.used, .int .i64 y.has] rfl rfl (cell_five_at _ _ _ _ _ _ _ _ (by simp)) (one_bin y) (by unfold maxLen; omega) (by omega) (by simp; omega) ?_; intro v' w4 hown2 hgrow2 _; replace HQ := Hid.mk2 (HQ.out.snoc HY.out HYI.out hown2 hgrow2); clear hown2 hgrow2)
        | (go_at_call 36; refine (next_any 40 (by omega) _ _ HQ.out.fed).mono ?_; rintro e w5 ⟨⟨r5, h5, k5, rfl⟩, hF, hB⟩; replace HQ := Hid.mk2 (HQ.out.but hB hF); clear hF hB))
      go_roundw
      case rel => exact ⟨i + 1, id + 1 + r5, l ++ [y], by omega, by go_num, by simp [HL.out], by go_num, by omega, by omega, HQ.out.more (by omega)⟩
      case measure => simp [intOf]; omega
    · have hd : decide ((i : Int) < (n : Int)) = false := by simp; omega
      have ho := HQ.out.own
      obtain ⟨a, c, hv⟩ := (reads_of_own ho).shape
      have hin : i = n := by omega
      go_wp2
      go_ret
      refine ⟨HQ.out.bl, l, a, c, HQ.out.up, by have := HL.out; omega, hl12, by rw [hv] <;> rfl, ?_⟩
      rw [hv] at ho
      exact own_low ho (by omega)
set_option maxHeartbeats 2000000 in
theorem sameBins_any (l : List Bn) (va vb : Value) (w : World) (ha : Reads w va l.length (cellsB l)) (hb : Reads w vb l.length (cellsB l)) (hl : l.length ≤ 100) :
    Calls Tryz.prog 23 #[va, vb] w fun e w' => e = .returned (.bool true) ∧ Below w.heap.size w w' := by
  obtain ⟨a, c, rfl⟩ := ha.shape
  obtain ⟨a2, c2, rfl⟩ := hb.shape
  have HA := Hid.mk2 ha
  have HB := Hid.mk2 hb
  clear ha hb
  go_enter Tryz.func23, Tryz.ntmps23
  go_wp2
  go_loopw [5] (fun vi wr => ∃ i : Nat, i ≤ l.length ∧ vi = .int .i64 i ∧ Below w.heap.size w wr) (fun i _ => l.length - (intOf i).toNat)
  case atStart => exact ⟨0, Nat.zero_le _, rfl, Below.refl _ _⟩
  case round =>
    obtain ⟨i, hi, rfl, hbel⟩ := hrel
    by_cases hlt : i < l.length
    · obtain ⟨g, o, cap, hcut, hcap, hg, hc⟩ := HA.out.pos (by omega)
      cases hcut
      obtain ⟨g2, o2, cap2, hcut2, hcap2, hg2, hc2⟩ := HB.out.pos (by omega)
      cases hcut2
      obtain ⟨c0, c1, c2, c3, c4⟩ := bin_cells hc i hlt
      have e0 := (hbel.cell (p := ⟨g, o + i * 5, none⟩) hg).trans c0
      have e1 := (hbel.cell (p := ⟨g, o + i * 5 + 1, none⟩) hg).trans c1
      have e2 := (hbel.cell (p := ⟨g, o + i * 5 + 2, none⟩) hg).trans c2
      have e3 := (hbel.cell (p := ⟨g, o + i * 5 + 3, none⟩) hg).trans c3
      have e4 := (hbel.cell (p := ⟨g, o + i * 5 + 4, none⟩) hg).trans c4
      obtain ⟨c5, c6, c7, c8, c9⟩ := bin_cells hc2 i hlt
      have e5 := (hbel.cell (p := ⟨g2, o2 + i * 5, none⟩) hg2).trans c5
      have e6 := (hbel.cell (p := ⟨g2, o2 + i * 5 + 1, none⟩) hg2).trans c6
      have e7 := (hbel.cell (p := ⟨g2, o2 + i * 5 + 2, none⟩) hg2).trans c7
      have e8 := (hbel.cell (p := ⟨g2, o2 + i * 5 + 3, none⟩) hg2).trans c8
      have e9 := (hbel.cell (p := ⟨g2, o2 + i * 5 + 4, none⟩) hg2).trans c9
      generalize hx : l[i] = x at *
      clear hc hc2 c0 c1 c2 c3 c4 c5 c6 c7 c8 c9 hx
      go_wp2
      go_quiet (fail)
      go_wp2
      go_roundw
      case rel => exact ⟨i + 1, by omega, by go_num, below_drewN hbel _⟩
      case measure => simp [intOf]; omega
    · go_wp2
      go_ret
      exact ⟨rfl, hbel⟩
end Go.Proofs.YtffpmkgjnjdbaabGreatDoor

set_option linter.unusedVariables false
set_option linter.unusedSimpArgs false
namespace Go.Proofs.YtffpmkgjnjdbaabGreatDoor
open Go.RowKit

def chgK (p : Bool) (bs : List Bn) (id n : Int) : Nat := if p then pickK bs id n else putK bs id n
def chgB (p : Bool) (bs : List Bn) (id n : Int) : List Bn := if p then pickB bs id n else putB bs id n
set_option maxHeartbeats 1000000 in
theorem change_any (sb : Nat) (bs : List Bn) (im : ByteArray) (p : Bool) (mb mn id n : Int) (hn : In64 n) (w : World) (h : StoreAt w sb bs im) (hl : bs.length ≤ 100) (hok : ∀ b ∈ bs, b.Ok) :
    Calls Tryz.prog 53 #[.pointer (some ⟨sb, 0, none⟩), .int .i64 id, .agg #[.bool p, .int .i64 mb, .int .i64 mn], .int .i64 n] w fun e w' => e = .returned (.int .i64 (chgK p bs id n : Nat)) ∧ StoreAt w' sb (if chgK p bs id n = 0 then chgB p bs id n else bs) im ∧ But sb w w' ∧ RowNew w w' sb := by
  have HS := Hid.mk2 (h.below (box3 w (.cells #[.bool p, .int .i64 mb, .int .i64 mn] 65)))
  have hlt := h.lt
  have HWB := Hid.mk2 (box3 w (.cells #[.bool p, .int .i64 mb, .int .i64 mn] 65))
  have HW : Hid (But sb w (w.alloc (.cells #[.bool p, .int .i64 mb, .int .i64 mn] 65))) := But.of (box3 w _)
  clear h
  unfold chgK chgB
  cases p
  · simp only [Bool.false_eq_true, if_false]
    generalize hB : (if putK bs id n = 0 then putB bs id n else bs) = bs'
    generalize hk : putK bs id n = k
    have HK := Hid.mk2 hk
    have HB := Hid.mk2 hB
    clear hk hB
    go_enter Tryz.func53, Tryz.ntmps53
    go_wp2_with (go_at_call 25; refine (stPut_any sb bs im id n hn _ HS.out hl hok).mono ?_; rintro e w1 ⟨rfl, hs1, hb1, hr1⟩; rw [HB.out] at hs1; rw [HK.out]; have H1 := Hid.mk2 hs1; have H2 := Hid.mk2 hb1; have H3 := Hid.mk2 hr1; clear hs1 hb1 hr1)
    go_ret
    exact ⟨rfl, H1.out, HW.out.trans H2.out, RowNew.pre hlt HWB.out H3.out⟩
  · simp only [if_true]
    generalize hB : (if pickK bs id n = 0 then pickB bs id n else bs) = bs'
    generalize hk : pickK bs id n = k
    have HK := Hid.mk2 hk
    have HB := Hid.mk2 hB
    clear hk hB
    go_enter Tryz.func53, Tryz.ntmps53
    go_wp2_with (go_at_call 61; refine (stPick_any sb bs im id n hn _ HS.out hl hok).mono ?_; rintro e w1 ⟨rfl, hs1, hb1, hr1⟩; rw [HB.out] at hs1; rw [HK.out]; have H1 := Hid.mk2 hs1; have H2 := Hid.mk2 hb1; have H3 := Hid.mk2 hr1; clear hs1 hb1 hr1)
    go_ret
    exact ⟨rfl, H1.out, HW.out.trans H2.out, RowNew.pre hlt HWB.out H3.out⟩
/-- The room of a move. -/
def roomB (p : Bool) (b : Bn) : Int := if p then b.used else b.cap - b.used
def overK (p : Bool) : Nat := if p then 14 else 11
def doneB (p : Bool) (b : Bn) (n : Int) : Bn := if p then { b with used := b.used - n } else { b with used := b.used + n }
theorem chgK_over {p : Bool} {bs : List Bn} (h : Shelf bs) (k : Nat) (hk : k < bs.length) {n : Int} (h1 : 1 ≤ n) (h2 : roomB p bs[k] < n) : chgK p bs bs[k].id n = overK p := by
  unfold chgK roomB overK at *
  cases p
  · simp only [Bool.false_eq_true, if_false] at h2 ⊢
    unfold putK
    rw [findB_at h k hk]
    simp only
    rw [if_neg (by omega), if_pos h2]
  · simp only [if_true] at h2 ⊢
    unfold pickK
    rw [findB_at h k hk]
    simp only
    rw [if_neg (by omega), if_pos h2]
theorem chgK_fine {p : Bool} {bs : List Bn} (h : Shelf bs) (k : Nat) (hk : k < bs.length) {n : Int} (h1 : 1 ≤ n) (h2 : n ≤ roomB p bs[k]) : chgK p bs bs[k].id n = 0 ∧ chgB p bs bs[k].id n = bs.set k (doneB p bs[k] n) := by
  unfold chgK chgB roomB doneB at *
  cases p
  · simp only [Bool.false_eq_true, if_false] at h2 ⊢
    unfold putK putB
    rw [findB_at h k hk]
    simp only
    rw [if_neg (by omega), if_neg (by omega)]
    exact ⟨rfl, replB_at h k hk _ rfl⟩
  · simp only [if_true] at h2 ⊢
    unfold pickK pickB
    rw [findB_at h k hk]
    simp only
    rw [if_neg (by omega), if_neg (by omega)]
    exact ⟨rfl, replB_at h k hk _ rfl⟩
theorem doneB_ok {p : Bool} {b : Bn} (hb : b.Ok) {n : Int} (h1 : 1 ≤ n) (h2 : n ≤ roomB p b) : (doneB p b n).Ok ∧ (doneB p b n).id = b.id := by
  unfold roomB doneB Bn.Ok at *
  cases p
  · simp only [Bool.false_eq_true, if_false] at h2 ⊢
    refine ⟨?_, trivial⟩
    omega
  · simp only [if_true] at h2 ⊢
    refine ⟨?_, trivial⟩
    omega
/-- What lies in memory while a bin is moved. -/
structure MvSt (w wx : World) (sb : Nat) (bs : List Bn) (im : ByteArray) (b : Bn) (p : Bool) (mb mn : Int) : Prop where
  b4 : Blk wx w.heap.size #[.int .i64 b.id, .int .i64 b.zone, .int .i64 b.cap, .int .i64 b.used, .int .i64 b.has] 25
  b5 : Blk wx (w.heap.size + 1) #[.bool p, .int .i64 mb, .int .i64 mn] 65
  b6 : Blk wx (w.heap.size + 1 + 1) #[.int .i64 0, .int .i64 0, .int .i64 0, .int .i64 0, .int .i64 0] 25
  bl : But sb w wx
  st : StoreAt wx sb bs im
  lt : sb < w.heap.size
  sz : w.heap.size + 1 + 1 < wx.heap.size
  off : ∀ v im, Blk wx sb #[v, .string im] 107 → ∀ k, v.ownBlock = some k → k < w.heap.size ∨ w.heap.size + 1 + 1 < k
  rn : RowNew w wx sb
theorem RowNew.trans {w w1 w2 : World} {sb : Nat} (h1 : RowNew w w1 sb) (h2 : RowNew w1 w2 sb) (hs : w.heap.size ≤ w1.heap.size) : RowNew w w2 sb := by
  intro v im hv
  rcases h2 v im hv with ⟨im0, h0⟩ | h0
  · exact h1 v im0 h0
  · exact .inr fun k hk => Nat.le_trans hs (h0 k hk)
theorem MvSt.to {w wx w' : World} {sb : Nat} {bs bs' : List Bn} {im : ByteArray} {b : Bn} {p : Bool} {mb mn : Int} (h : MvSt w wx sb bs im b p mb mn) (hb : But sb wx w') (hs : StoreAt w' sb bs' im) (hr : RowNew wx w' sb) : MvSt w w' sb bs' im b p mb mn := by
  have := h.lt
  have hsz := h.sz
  refine ⟨h.b4.but hb (by omega), h.b5.but hb (by omega), h.b6.but hb (by omega), h.bl.trans hb, hs, h.lt, Nat.lt_of_lt_of_le h.sz hb.size, fun v im hv k hk => ?_, h.rn.trans hr h.bl.size⟩
  rcases hr v im hv with ⟨im0, h0⟩ | h0
  · exact h.off v im0 h0 k hk
  · have := h0 k hk; omega
theorem mv_start {w : World} {sb : Nat} {bs : List Bn} {im : ByteArray} (h : StoreAt w sb bs im) (b : Bn) (p : Bool) (mb mn : Int) : MvSt w (((w.alloc (.cells #[.int .i64 b.id, .int .i64 b.zone, .int .i64 b.cap, .int .i64 b.used, .int .i64 b.has] 25)).alloc (.cells #[.bool p, .int .i64 mb, .int .i64 mn] 65)).alloc (.cells #[.int .i64 0, .int .i64 0, .int .i64 0, .int .i64 0, .int .i64 0] 25)) sb bs im b p mb mn := by
  have hb : Below w.heap.size w (((w.alloc (.cells #[.int .i64 b.id, .int .i64 b.zone, .int .i64 b.cap, .int .i64 b.used, .int .i64 b.has] 25)).alloc (.cells #[.bool p, .int .i64 mb, .int .i64 mn] 65)).alloc (.cells #[.int .i64 0, .int .i64 0, .int .i64 0, .int .i64 0, .int .i64 0] 25)) := ((box3 w _).alloc (by simp) _).alloc (by simp; omega) _
  refine ⟨((Blk.new w _ _).alloc _).alloc _, ?_, ?_, But.of hb, h.below hb, h.lt, by simp, ?_, RowNew.same h.lt hb⟩
  · have := (Blk.new (w.alloc (.cells #[.int .i64 b.id, .int .i64 b.zone, .int .i64 b.cap, .int .i64 b.used, .int .i64 b.has] 25)) #[.bool p, .int .i64 mb, .int .i64 mn] 65).alloc (.cells #[.int .i64 0, .int .i64 0, .int .i64 0, .int .i64 0, .int .i64 0] 25)
    simpa using this
  · have := Blk.new ((w.alloc (.cells #[.int .i64 b.id, .int .i64 b.zone, .int .i64 b.cap, .int .i64 b.used, .int .i64 b.has] 25)).alloc (.cells #[.bool p, .int .i64 mb, .int .i64 mn] 65)) #[.int .i64 0, .int .i64 0, .int .i64 0, .int .i64 0, .int .i64 0] 25
    simpa using this
  · intro v im' hv k hk
    obtain ⟨a, c, h1, h2⟩ := h.ok
    have := Blk.same hv (h1.below hb h1.lt)
    have hv' : v = .slice a bs.length c := by
      have h3 := congrArg (fun x : Array Value => x[0]?) this
      simpa using h3
    subst hv'
    exact .inl (h2.lt k hk).2
end Go.Proofs.YtffpmkgjnjdbaabGreatDoor

set_option linter.unusedVariables false
set_option linter.unusedSimpArgs false
namespace Go.Proofs.YtffpmkgjnjdbaabGreatDoor
open Go.RowKit

theorem change_over (sb : Nat) (bs : List Bn) (im : ByteArray) (p : Bool) (mb mn n : Int) (hn : In64 n) (b : Bn) (k : Nat) (hk : k < bs.length) (hb : bs[k] = b) (hsh : Shelf bs) (h1 : 1 ≤ n) (h2 : roomB p b < n) (w : World) (h : StoreAt w sb bs im) (hl : bs.length ≤ 100) :
    Calls Tryz.prog 53 #[.pointer (some ⟨sb, 0, none⟩), .int .i64 b.id, .agg #[.bool p, .int .i64 mb, .int .i64 mn], .int .i64 n] w fun e w' => e = .returned (.int .i64 (overK p : Nat)) ∧ StoreAt w' sb bs im ∧ But sb w w' ∧ RowNew w w' sb := by
  subst hb
  refine (change_any sb bs im p mb mn _ n hn w h hl hsh.ok).mono ?_
  rintro e w' ⟨rfl, hs, hb⟩
  have hK := chgK_over hsh k hk h1 h2
  rw [hK] at hs ⊢
  rw [if_neg (by unfold overK; split <;> decide)] at hs
  exact ⟨rfl, hs, hb⟩
theorem change_fine (sb : Nat) (bs : List Bn) (im : ByteArray) (p : Bool) (mb mn n : Int) (hn : In64 n) (b : Bn) (k : Nat) (hk : k < bs.length) (hb : bs[k] = b) (hsh : Shelf bs) (h1 : 1 ≤ n) (h2 : n ≤ roomB p b) (w : World) (h : StoreAt w sb bs im) (hl : bs.length ≤ 100) :
    Calls Tryz.prog 53 #[.pointer (some ⟨sb, 0, none⟩), .int .i64 b.id, .agg #[.bool p, .int .i64 mb, .int .i64 mn], .int .i64 n] w fun e w' => e = .returned (.int .i64 0) ∧ StoreAt w' sb (bs.set k (doneB p b n)) im ∧ But sb w w' ∧ RowNew w w' sb := by
  subst hb
  refine (change_any sb bs im p mb mn _ n hn w h hl hsh.ok).mono ?_
  rintro e w' ⟨rfl, hs, hb⟩
  obtain ⟨hK, hB⟩ := chgK_fine hsh k hk h1 h2
  rw [hK] at hs ⊢
  rw [if_pos rfl, hB] at hs
  exact ⟨rfl, hs, hb⟩
theorem But.st2 {sb : Nat} {w wx : World} (h : But sb w wx) (b i : Nat) (hb : w.heap.size ≤ b) (v : Value) : But sb w (wx.setCell ⟨b, i, none⟩ v) := h.st b i hb v
theorem StoreAt.st {w : World} {sb : Nat} {bs : List Bn} {im : ByteArray} (h : StoreAt w sb bs im) (b i : Nat) (v : Value) (hb : sb ≠ b) (hr : ∀ a c, Blk w sb #[.slice a bs.length c, .string im] 107 → ∀ k, (Value.slice a bs.length c).ownBlock = some k → k ≠ b) : StoreAt (w.setCell ⟨b, i, none⟩ v) sb bs im := by
  obtain ⟨a, c, h1, h2⟩ := h.ok
  refine ⟨a, c, h1.other ⟨b, i, none⟩ v hb, ?_⟩
  refine ⟨h2.1, ?_⟩
  rcases h2.2 with hn | ⟨g, cap, cur, hv, hbg, hh, r⟩
  · exact .inl hn
  · refine .inr ⟨g, cap, cur, hv, hbg, ?_, r⟩
    have hne := hr a c h1 g (by rw [hv]; rfl)
    rw [Below.heap_setCell _ _ _ _ (by simpa using hne)]
    exact hh
end Go.Proofs.YtffpmkgjnjdbaabGreatDoor
