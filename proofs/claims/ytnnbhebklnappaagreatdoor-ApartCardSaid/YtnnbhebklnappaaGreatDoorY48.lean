/-
  A move: change, moved.
  A move of one bin: moved.
-/
import Derived.Test.YtnnbhebklnappaaGreatDoorY47
set_option linter.unusedVariables false
set_option linter.unusedSimpArgs false
namespace Go.Proofs.YtnnbhebklnappaaGreatDoor
open Go.RowKit

def chgK (p : Bool) (bs : List Bn) (id n : Int) : Nat := if p then pickK bs id n else putK bs id n
def chgB (p : Bool) (bs : List Bn) (id n : Int) : List Bn := if p then pickB bs id n else putB bs id n
set_option maxHeartbeats 1000000 in
theorem change_any (sb : Nat) (bs : List Bn) (im : ByteArray) (p : Bool) (mb mn id n : Int) (hn : In64 n) (w : World) (h : StoreAt w sb bs im) (hl : bs.length ≤ 100) (hok : ∀ b ∈ bs, b.Ok) :
    Calls Tryz.prog 53 #[.pointer (some ⟨sb, 0, none⟩), .int .i64 id, .agg #[.bool p, .int .i64 mb, .int .i64 mn], .int .i64 n] w fun e w' => e = .returned (.int .i64 (chgK p bs id n : Nat)) ∧ StoreAt w' sb (if chgK p bs id n = 0 then chgB p bs id n else bs) im ∧ But sb w w' ∧ RowNew w w' sb := by
  have HS := Hid.mk2 (h.below (box3 w (.cells #[.bool p, .int .i64 mb, .int .i64 mn] 66)))
  have hlt := h.lt
  have HWB := Hid.mk2 (box3 w (.cells #[.bool p, .int .i64 mb, .int .i64 mn] 66))
  have HW : Hid (But sb w (w.alloc (.cells #[.bool p, .int .i64 mb, .int .i64 mn] 66))) := But.of (box3 w _)
  clear h
  unfold chgK chgB
  cases p
  · simp only [Bool.false_eq_true, if_false]
    generalize hB : (if putK bs id n = 0 then putB bs id n else bs) = bs'
    generalize hk : putK bs id n = k
    have HK := Hid.mk2 hk
    have HB := Hid.mk2 hB
    clear hk hB
    go_enter Tryz.func53, Tryz.ntmps53
    go_wp2_with (go_at_call 49; refine (stPut_any sb bs im id n hn _ HS.out hl hok).mono ?_; rintro e w1 ⟨rfl, hs1, hb1, hr1⟩; rw [HB.out] at hs1; rw [HK.out]; have H1 := Hid.mk2 hs1; have H2 := Hid.mk2 hb1; have H3 := Hid.mk2 hr1; clear hs1 hb1 hr1)
    go_ret
    exact ⟨rfl, H1.out, HW.out.trans H2.out, RowNew.pre hlt HWB.out H3.out⟩
  · simp only [if_true]
    generalize hB : (if pickK bs id n = 0 then pickB bs id n else bs) = bs'
    generalize hk : pickK bs id n = k
    have HK := Hid.mk2 hk
    have HB := Hid.mk2 hB
    clear hk hB
    go_enter Tryz.func53, Tryz.ntmps53
    go_wp2_with (go_at_call 50; refine (stPick_any sb bs im id n hn _ HS.out hl hok).mono ?_; rintro e w1 ⟨rfl, hs1, hb1, hr1⟩; rw [HB.out] at hs1; rw [HK.out]; have H1 := Hid.mk2 hs1; have H2 := Hid.mk2 hb1; have H3 := Hid.mk2 hr1; clear hs1 hb1 hr1)
    go_ret
    exact ⟨rfl, H1.out, HW.out.trans H2.out, RowNew.pre hlt HWB.out H3.out⟩
/-- The room of a move. -/
def roomB (p : Bool) (b : Bn) : Int := if p then b.used else b.cap - b.used
def overK (p : Bool) : Nat := if p then 14 else 11
def doneB (p : Bool) (b : Bn) (n : Int) : Bn := if p then { b with used := b.used - n } else { b with used := b.used + n }
theorem chgK_over {p : Bool} {bs : List Bn} (h : Shelf bs) (k : Nat) (hk : k < bs.length) {n : Int} (h1 : 1 ≤ n) (h2 : roomB p bs[k] < n) : chgK p bs bs[k].id n = overK p := by
  unfold chgK roomB overK at *
  cases p
  · simp only [Bool.false_eq_true, if_false] at h2 ⊢
    unfold putK
    rw [findB_at h k hk]
    simp only
    rw [if_neg (by omega), if_pos h2]
  · simp only [if_true] at h2 ⊢
    unfold pickK
    rw [findB_at h k hk]
    simp only
    rw [if_neg (by omega), if_pos h2]
theorem chgK_fine {p : Bool} {bs : List Bn} (h : Shelf bs) (k : Nat) (hk : k < bs.length) {n : Int} (h1 : 1 ≤ n) (h2 : n ≤ roomB p bs[k]) : chgK p bs bs[k].id n = 0 ∧ chgB p bs bs[k].id n = bs.set k (doneB p bs[k] n) := by
  unfold chgK chgB roomB doneB at *
  cases p
  · simp only [Bool.false_eq_true, if_false] at h2 ⊢
    unfold putK putB
    rw [findB_at h k hk]
    simp only
    rw [if_neg (by omega), if_neg (by omega)]
    exact ⟨rfl, replB_at h k hk _ rfl⟩
  · simp only [if_true] at h2 ⊢
    unfold pickK pickB
    rw [findB_at h k hk]
    simp only
    rw [if_neg (by omega), if_neg (by omega)]
    exact ⟨rfl, replB_at h k hk _ rfl⟩
theorem doneB_ok {p : Bool} {b : Bn} (hb : b.Ok) {n : Int} (h1 : 1 ≤ n) (h2 : n ≤ roomB p b) : (doneB p b n).Ok ∧ (doneB p b n).id = b.id := by
  unfold roomB doneB Bn.Ok at *
  cases p
  · simp only [Bool.false_eq_true, if_false] at h2 ⊢
    refine ⟨?_, trivial⟩
    omega
  · simp only [if_true] at h2 ⊢
    refine ⟨?_, trivial⟩
    omega
/-- What lies in memory while a bin is moved. -/
structure MvSt (w wx : World) (sb : Nat) (bs : List Bn) (im : ByteArray) (b : Bn) (p : Bool) (mb mn : Int) : Prop where
  b4 : Blk wx w.heap.size #[.int .i64 b.id, .int .i64 b.zone, .int .i64 b.cap, .int .i64 b.used, .int .i64 b.has] 25
  b5 : Blk wx (w.heap.size + 1) #[.bool p, .int .i64 mb, .int .i64 mn] 66
  b6 : Blk wx (w.heap.size + 1 + 1) #[.int .i64 0, .int .i64 0, .int .i64 0, .int .i64 0, .int .i64 0] 25
  bl : But sb w wx
  st : StoreAt wx sb bs im
  lt : sb < w.heap.size
  sz : w.heap.size + 1 + 1 < wx.heap.size
  off : ∀ v im, Blk wx sb #[v, .string im] 95 → ∀ k, v.ownBlock = some k → k < w.heap.size ∨ w.heap.size + 1 + 1 < k
  rn : RowNew w wx sb
theorem RowNew.trans {w w1 w2 : World} {sb : Nat} (h1 : RowNew w w1 sb) (h2 : RowNew w1 w2 sb) (hs : w.heap.size ≤ w1.heap.size) : RowNew w w2 sb := by
  intro v im hv
  rcases h2 v im hv with ⟨im0, h0⟩ | h0
  · exact h1 v im0 h0
  · exact .inr fun k hk => Nat.le_trans hs (h0 k hk)
theorem MvSt.to {w wx w' : World} {sb : Nat} {bs bs' : List Bn} {im : ByteArray} {b : Bn} {p : Bool} {mb mn : Int} (h : MvSt w wx sb bs im b p mb mn) (hb : But sb wx w') (hs : StoreAt w' sb bs' im) (hr : RowNew wx w' sb) : MvSt w w' sb bs' im b p mb mn := by
  have := h.lt
  have hsz := h.sz
  refine ⟨h.b4.but hb (by omega), h.b5.but hb (by omega), h.b6.but hb (by omega), h.bl.trans hb, hs, h.lt, Nat.lt_of_lt_of_le h.sz hb.size, fun v im hv k hk => ?_, h.rn.trans hr h.bl.size⟩
  rcases hr v im hv with ⟨im0, h0⟩ | h0
  · exact h.off v im0 h0 k hk
  · have := h0 k hk; omega
theorem mv_start {w : World} {sb : Nat} {bs : List Bn} {im : ByteArray} (h : StoreAt w sb bs im) (b : Bn) (p : Bool) (mb mn : Int) : MvSt w (((w.alloc (.cells #[.int .i64 b.id, .int .i64 b.zone, .int .i64 b.cap, .int .i64 b.used, .int .i64 b.has] 25)).alloc (.cells #[.bool p, .int .i64 mb, .int .i64 mn] 66)).alloc (.cells #[.int .i64 0, .int .i64 0, .int .i64 0, .int .i64 0, .int .i64 0] 25)) sb bs im b p mb mn := by
  have hb : Below w.heap.size w (((w.alloc (.cells #[.int .i64 b.id, .int .i64 b.zone, .int .i64 b.cap, .int .i64 b.used, .int .i64 b.has] 25)).alloc (.cells #[.bool p, .int .i64 mb, .int .i64 mn] 66)).alloc (.cells #[.int .i64 0, .int .i64 0, .int .i64 0, .int .i64 0, .int .i64 0] 25)) := ((box3 w _).alloc (by simp) _).alloc (by simp; omega) _
  refine ⟨((Blk.new w _ _).alloc _).alloc _, ?_, ?_, But.of hb, h.below hb, h.lt, by simp, ?_, RowNew.same h.lt hb⟩
  · have := (Blk.new (w.alloc (.cells #[.int .i64 b.id, .int .i64 b.zone, .int .i64 b.cap, .int .i64 b.used, .int .i64 b.has] 25)) #[.bool p, .int .i64 mb, .int .i64 mn] 66).alloc (.cells #[.int .i64 0, .int .i64 0, .int .i64 0, .int .i64 0, .int .i64 0] 25)
    simpa using this
  · have := Blk.new ((w.alloc (.cells #[.int .i64 b.id, .int .i64 b.zone, .int .i64 b.cap, .int .i64 b.used, .int .i64 b.has] 25)).alloc (.cells #[.bool p, .int .i64 mb, .int .i64 mn] 66)) #[.int .i64 0, .int .i64 0, .int .i64 0, .int .i64 0, .int .i64 0] 25
    simpa using this
  · intro v im' hv k hk
    obtain ⟨a, c, h1, h2⟩ := h.ok
    have := Blk.same hv (h1.below hb h1.lt)
    have hv' : v = .slice a bs.length c := by
      have h3 := congrArg (fun x : Array Value => x[0]?) this
      simpa using h3
    subst hv'
    exact .inl (h2.lt k hk).2
end Go.Proofs.YtnnbhebklnappaaGreatDoor

set_option linter.unusedVariables false
set_option linter.unusedSimpArgs false
namespace Go.Proofs.YtnnbhebklnappaaGreatDoor
open Go.RowKit

theorem change_over (sb : Nat) (bs : List Bn) (im : ByteArray) (p : Bool) (mb mn n : Int) (hn : In64 n) (b : Bn) (k : Nat) (hk : k < bs.length) (hb : bs[k] = b) (hsh : Shelf bs) (h1 : 1 ≤ n) (h2 : roomB p b < n) (w : World) (h : StoreAt w sb bs im) (hl : bs.length ≤ 100) :
    Calls Tryz.prog 53 #[.pointer (some ⟨sb, 0, none⟩), .int .i64 b.id, .agg #[.bool p, .int .i64 mb, .int .i64 mn], .int .i64 n] w fun e w' => e = .returned (.int .i64 (overK p : Nat)) ∧ StoreAt w' sb bs im ∧ But sb w w' ∧ RowNew w w' sb := by
  subst hb
  refine (change_any sb bs im p mb mn _ n hn w h hl hsh.ok).mono ?_
  rintro e w' ⟨rfl, hs, hb⟩
  have hK := chgK_over hsh k hk h1 h2
  rw [hK] at hs ⊢
  rw [if_neg (by unfold overK; split <;> decide)] at hs
  exact ⟨rfl, hs, hb⟩
theorem change_fine (sb : Nat) (bs : List Bn) (im : ByteArray) (p : Bool) (mb mn n : Int) (hn : In64 n) (b : Bn) (k : Nat) (hk : k < bs.length) (hb : bs[k] = b) (hsh : Shelf bs) (h1 : 1 ≤ n) (h2 : n ≤ roomB p b) (w : World) (h : StoreAt w sb bs im) (hl : bs.length ≤ 100) :
    Calls Tryz.prog 53 #[.pointer (some ⟨sb, 0, none⟩), .int .i64 b.id, .agg #[.bool p, .int .i64 mb, .int .i64 mn], .int .i64 n] w fun e w' => e = .returned (.int .i64 0) ∧ StoreAt w' sb (bs.set k (doneB p b n)) im ∧ But sb w w' ∧ RowNew w w' sb := by
  subst hb
  refine (change_any sb bs im p mb mn _ n hn w h hl hsh.ok).mono ?_
  rintro e w' ⟨rfl, hs, hb⟩
  obtain ⟨hK, hB⟩ := chgK_fine hsh k hk h1 h2
  rw [hK] at hs ⊢
  rw [if_pos rfl, hB] at hs
  exact ⟨rfl, hs, hb⟩
theorem But.st2 {sb : Nat} {w wx : World} (h : But sb w wx) (b i : Nat) (hb : w.heap.size ≤ b) (v : Value) : But sb w (wx.setCell ⟨b, i, none⟩ v) := h.st b i hb v
theorem StoreAt.st {w : World} {sb : Nat} {bs : List Bn} {im : ByteArray} (h : StoreAt w sb bs im) (b i : Nat) (v : Value) (hb : sb ≠ b) (hr : ∀ a c, Blk w sb #[.slice a bs.length c, .string im] 95 → ∀ k, (Value.slice a bs.length c).ownBlock = some k → k ≠ b) : StoreAt (w.setCell ⟨b, i, none⟩ v) sb bs im := by
  obtain ⟨a, c, h1, h2⟩ := h.ok
  refine ⟨a, c, h1.other ⟨b, i, none⟩ v hb, ?_⟩
  refine ⟨h2.1, ?_⟩
  rcases h2.2 with hn | ⟨g, cap, cur, hv, hbg, hh, r⟩
  · exact .inl hn
  · refine .inr ⟨g, cap, cur, hv, hbg, ?_, r⟩
    have hne := hr a c h1 g (by rw [hv]; rfl)
    rw [Below.heap_setCell _ _ _ _ (by simpa using hne)]
    exact hh
end Go.Proofs.YtnnbhebklnappaaGreatDoor
