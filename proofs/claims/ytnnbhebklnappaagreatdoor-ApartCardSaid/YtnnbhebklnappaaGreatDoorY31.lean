/-
  The program's list of bins: Add, Remove, Put, Pick.
  The program's list of bins: Remove, Put, Pick.
  A store: Add, Remove, Put, Pick, Bins.
-/
import Derived.Test.YtnnbhebklnappaaGreatDoorY30
import Derived.Test.YtnnbhebklnappaaGreatDoorY28
import Derived.Deep.RegionHeld3
set_option linter.unusedVariables false
set_option linter.unusedSimpArgs false
namespace Go.Proofs.YtnnbhebklnappaaGreatDoor
open Go.RowKit

structure Lst (w wx : World) (bs : List Bn) (v : Value) : Prop where
  reads : Reads wx v bs.length (cellsB bs)
  bl : Below w.heap.size w wx
theorem Lst.below {w wx w' : World} {bs : List Bn} {v : Value} (h : Lst w wx bs v) (hb : Below wx.heap.size wx w') : Lst w w' bs v := ⟨h.reads.below hb, h.bl.trans (hb.mono h.bl.size)⟩
theorem Lst.al {w wx : World} {bs : List Bn} {v : Value} (h : Lst w wx bs v) (o : Obj) : Lst w (wx.alloc o) bs v := h.below (box3 wx o)
theorem Lst.to {w wx w' : World} {bs : List Bn} {v : Value} (h : Lst w wx bs v) (hb : Below wx.heap.size wx w') : Below w.heap.size w w' := h.bl.trans (hb.mono h.bl.size)
theorem Lst.own {w wx w' : World} {bs : List Bn} {v v' : Value} {n : Nat} {xs : List Value} (h : Lst w wx bs v) (ho : w'.ownsRow wx.heap.size 25 5 v' n xs) : w'.ownsRow w.heap.size 25 5 v' n xs := own_low ho h.bl.size
def binC (b : Bn) : Array Value := #[.int .i64 b.id, .int .i64 b.zone, .int .i64 b.cap, .int .i64 b.used, .int .i64 b.has]
theorem find_some {bs : List Bn} {id : Int} {b : Bn} {e : Ending} {P : Prop} (hf : findB bs id = some b) (h : P ∧ ((∃ b, findB bs id = some b ∧ e = .returned (.tuple #[bnA b, .bool true])) ∨ (findB bs id = none ∧ e = .returned (.tuple #[bnA zeroB, .bool false])))) : P ∧ e = .returned (.tuple #[bnA b, .bool true]) := by
  obtain ⟨hp, ⟨b', h1, h2⟩ | ⟨h1, _⟩⟩ := h
  · rw [hf] at h1; cases h1; exact ⟨hp, h2⟩
  · rw [hf] at h1; cases h1
theorem find_no {bs : List Bn} {id : Int} {e : Ending} {P : Prop} (hf : findB bs id = none) (h : P ∧ ((∃ b, findB bs id = some b ∧ e = .returned (.tuple #[bnA b, .bool true])) ∨ (findB bs id = none ∧ e = .returned (.tuple #[bnA zeroB, .bool false])))) : P ∧ e = .returned (.tuple #[bnA zeroB, .bool false]) := by
  obtain ⟨hp, ⟨b', h1, h2⟩ | ⟨_, h2⟩⟩ := h
  · rw [hf] at h1; cases h1
  · exact ⟨hp, h2⟩
/-- What Add, Remove, Put and Pick answer. -/
def addK (bs : List Bn) (b : Bn) : Nat := if bnB b = false then 9 else if (findB bs b.id).isSome then 10 else if 12 ≤ bs.length then 11 else 0
def remK (bs : List Bn) (id : Int) : Nat := match findB bs id with
  | none => 12
  | some b => if 0 < b.used then 14 else 0
def putK (bs : List Bn) (id n : Int) : Nat := match findB bs id with
  | none => 12
  | some b => if n < 1 then 13 else if b.cap - b.used < n then 11 else 0
def pickK (bs : List Bn) (id n : Int) : Nat := match findB bs id with
  | none => 12
  | some b => if n < 1 then 13 else if b.used < n then 14 else 0
def putB (bs : List Bn) (id n : Int) : List Bn := match findB bs id with
  | none => bs
  | some b => replB bs { b with used := b.used + n }
def pickB (bs : List Bn) (id n : Int) : List Bn := match findB bs id with
  | none => bs
  | some b => replB bs { b with used := b.used - n }
/-- A list, or an error with none. -/
def RowOr (w w' : World) (e : Ending) (k : Nat) (bs' : List Bn) : Prop :=
  (k ≠ 0 ∧ e = .returned (.tuple #[.slice none 0 0, .int .i64 k])) ∨ (k = 0 ∧ ∃ a c, e = .returned (.tuple #[.slice a bs'.length c, .int .i64 0]) ∧ w'.ownsRow w.heap.size 25 5 (.slice a bs'.length c) bs'.length (cellsB bs'))
set_option maxHeartbeats 2000000 in
theorem sAdd_any (bs : List Bn) (b : Bn) (v : Value) (w : World) (h : Reads w v bs.length (cellsB bs)) (hl : bs.length ≤ 100) :
    Calls Tryz.prog 51 #[v, bnA b] w fun e w' => Below w.heap.size w w' ∧ RowOr w w' e (addK bs b) (insB bs b) := by
  have HL : Hid (Lst w (w.alloc (.cells #[.int .i64 b.id, .int .i64 b.zone, .int .i64 b.cap, .int .i64 b.used, .int .i64 b.has] 25)) bs v) := ⟨h.alloc _, box3 w _⟩
  have HN := Hid.mk2 (Blk.new w #[.int .i64 b.id, .int .i64 b.zone, .int .i64 b.cap, .int .i64 b.used, .int .i64 b.has] 25)
  obtain ⟨a, c, rfl⟩ := h.shape
  clear h
  cases hy : bnB b
  · have HK : Hid (addK bs b = 9) := by rw [Hid, addK, if_pos hy]
    unfold bnA
    go_enter Tryz.func51, Tryz.ntmps51
    go_wp2_with (go_at_call 39; refine (pIsBin_any b _).mono ?_; rintro e w1 ⟨rfl, hb1⟩; rw [hy])
    first | go_ret2 | go_ret3 | go_ret
    exact ⟨HL.out.to hb1, .inl ⟨by rw [HK.out]; decide, by rw [HK.out]; rfl⟩⟩
  cases hf : findB bs b.id with
  | some x =>
    have HK : Hid (addK bs b = 10) := by rw [Hid, addK, if_neg (by simp [hy]), hf]; rfl
    have HF := Hid.mk2 hf
    clear hf
    unfold bnA
    go_enter Tryz.func51, Tryz.ntmps51
    go_wp2_with (first
      | (go_at_call 39; refine (pIsBin_any b _).mono ?_; rintro e w1 ⟨rfl, hb1⟩; rw [hy]; replace HL := Hid.mk2 (HL.out.below hb1); replace HN := Hid.mk2 (HN.out.below hb1 HN.out.lt); have d0 := HN.out.cell 0)
      | (go_at_call 74; refine (find_any bs b.id _ _ HL.out.reads hl).mono ?_; intro e w2 hor; obtain ⟨hb2, rfl⟩ := find_some HF.out hor; unfold bnA))
    first | go_ret2 | go_ret3 | go_ret
    exact ⟨HL.out.to (hb2.trans ((box3 w2 _).mono hb2.size)), .inl ⟨by rw [HK.out]; decide, by rw [HK.out]; rfl⟩⟩
  | none =>
    have HF := Hid.mk2 hf
    by_cases h12 : 12 ≤ bs.length
    · have HK : Hid (addK bs b = 11) := by rw [Hid, addK, if_neg (by simp [hy]), hf, if_neg (by simp), if_pos h12]
      clear hf
      unfold bnA
      go_enter Tryz.func51, Tryz.ntmps51
      go_wp2_with (first
        | (go_at_call 39; refine (pIsBin_any b _).mono ?_; rintro e w1 ⟨rfl, hb1⟩; rw [hy]; replace HL := Hid.mk2 (HL.out.below hb1); replace HN := Hid.mk2 (HN.out.below hb1 HN.out.lt); have d0 := HN.out.cell 0)
        | (go_at_call 74; refine (find_any bs b.id _ _ HL.out.reads hl).mono ?_; intro e w2 hor; obtain ⟨hb2, rfl⟩ := find_no HF.out hor; unfold bnA zeroB))
      first | go_ret2 | go_ret3 | go_ret
      exact ⟨HL.out.to (hb2.trans ((box3 w2 _).mono hb2.size)), .inl ⟨by rw [HK.out]; decide, by rw [HK.out]; rfl⟩⟩
    · have HK : Hid (addK bs b = 0) := by rw [Hid, addK, if_neg (by simp [hy]), hf, if_neg (by simp), if_neg h12]
      clear hf
      unfold bnA
      go_enter Tryz.func51, Tryz.ntmps51
      go_wp2_with (first
        | (go_at_call 39; refine (pIsBin_any b _).mono ?_; rintro e w1 ⟨rfl, hb1⟩; rw [hy]; replace HL := Hid.mk2 (HL.out.below hb1); replace HN := Hid.mk2 (HN.out.below hb1 HN.out.lt); have d0 := HN.out.cell 0)
        | (go_at_call 74; refine (find_any bs b.id _ _ HL.out.reads hl).mono ?_; intro e w2 hor; obtain ⟨hb2, rfl⟩ := find_no HF.out hor; unfold bnA zeroB; replace HL := Hid.mk2 ((HL.out.below hb2).al (.cells #[.int .i64 0, .int .i64 0, .int .i64 0, .int .i64 0, .int .i64 0] 25)); replace HN := Hid.mk2 ((HN.out.below hb2 HN.out.lt).alloc (.cells #[.int .i64 0, .int .i64 0, .int .i64 0, .int .i64 0, .int .i64 0] 25)); have d0 := HN.out.cell 0; have d1 := HN.out.cell 1; have d2 := HN.out.cell 2; have d3 := HN.out.cell 3; have d4 := HN.out.cell 4)
        | (go_at_call 75; refine (with_any bs b _ _ HL.out.reads hl).mono ?_; rintro e w3 ⟨hb3, v', rfl, hown⟩; obtain ⟨a', c', rfl⟩ := (reads_of_own hown).shape))
      first | go_ret2 | go_ret3 | go_ret
      exact ⟨HL.out.to hb3, .inr ⟨HK.out, _, _, rfl, HL.out.own hown⟩⟩
end Go.Proofs.YtnnbhebklnappaaGreatDoor

set_option linter.unusedVariables false
set_option linter.unusedSimpArgs false
namespace Go.Proofs.YtnnbhebklnappaaGreatDoor
open Go.RowKit

theorem findB_mem {bs : List Bn} {id : Int} {b : Bn} (h : findB bs id = some b) : b ∈ bs := List.mem_of_find?_eq_some h
theorem replB_length (bs : List Bn) (b : Bn) : (replB bs b).length = bs.length := by simp [replB]
set_option maxHeartbeats 2000000 in
theorem sRemove_any (bs : List Bn) (id : Int) (v : Value) (w : World) (h : Reads w v bs.length (cellsB bs)) (hl : bs.length ≤ 100) :
    Calls Tryz.prog 71 #[v, .int .i64 id] w fun e w' => Below w.heap.size w w' ∧ RowOr w w' e (remK bs id) (dropB bs id) := by
  have HL : Hid (Lst w w bs v) := ⟨h, Below.refl _ _⟩
  obtain ⟨a, c, rfl⟩ := h.shape
  clear h
  cases hf : findB bs id with
  | none =>
    have HK : Hid (remK bs id = 12) := by rw [Hid, remK, hf]
    have HF := Hid.mk2 hf
    clear hf
    go_enter Tryz.func71, Tryz.ntmps71
    go_wp2_with (go_at_call 74; refine (find_any bs id _ _ HL.out.reads hl).mono ?_; intro e w2 hor; obtain ⟨hb2, rfl⟩ := find_no HF.out hor; unfold bnA zeroB)
    go_ret2
    exact ⟨HL.out.to (hb2.trans ((box3 w2 _).mono hb2.size)), .inl ⟨by rw [HK.out]; decide, by rw [HK.out]; rfl⟩⟩
  | some x =>
    have HF := Hid.mk2 hf
    by_cases hu : 0 < x.used
    · have HK : Hid (remK bs id = 14) := by rw [Hid, remK, hf]; simp [hu]
      clear hf
      go_enter Tryz.func71, Tryz.ntmps71
      go_wp2_with (go_at_call 74; refine (find_any bs id _ _ HL.out.reads hl).mono ?_; intro e w2 hor; obtain ⟨hb2, rfl⟩ := find_some HF.out hor; unfold bnA)
      go_ret2
      exact ⟨HL.out.to (hb2.trans ((box3 w2 _).mono hb2.size)), .inl ⟨by rw [HK.out]; decide, by rw [HK.out]; rfl⟩⟩
    · have HK : Hid (remK bs id = 0) := by rw [Hid, remK, hf]; simp [hu]
      clear hf
      go_enter Tryz.func71, Tryz.ntmps71
      go_wp2_with (first
        | (go_at_call 74; refine (find_any bs id _ _ HL.out.reads hl).mono ?_; intro e w2 hor; obtain ⟨hb2, rfl⟩ := find_some HF.out hor; unfold bnA; replace HL := Hid.mk2 (HL.out.below hb2))
        | (go_at_call 104; refine (without_any bs id _ _ (HL.out.al _).reads hl).mono ?_; rintro e w3 ⟨hb3, v', rfl, hown⟩; obtain ⟨a', c', rfl⟩ := (reads_of_own hown).shape))
      go_ret2
      exact ⟨(HL.out.al _).to hb3, .inr ⟨HK.out, _, _, rfl, (HL.out.al _).own hown⟩⟩
set_option maxHeartbeats 2000000 in
theorem sPut_any (bs : List Bn) (id n : Int) (hn : In64 n) (v : Value) (w : World) (h : Reads w v bs.length (cellsB bs)) (hl : bs.length ≤ 100) (hok : ∀ b ∈ bs, b.Ok) :
    Calls Tryz.prog 72 #[v, .int .i64 id, .int .i64 n] w fun e w' => Below w.heap.size w w' ∧ RowOr w w' e (putK bs id n) (putB bs id n) := by
  have HL : Hid (Lst w w bs v) := ⟨h, Below.refl _ _⟩
  obtain ⟨a, c, rfl⟩ := h.shape
  obtain ⟨hn1, hn2⟩ := hn
  clear h
  cases hf : findB bs id with
  | none =>
    have HK : Hid (putK bs id n = 12) := by rw [Hid, putK, hf]
    have HF := Hid.mk2 hf
    clear hf hok
    go_enter Tryz.func72, Tryz.ntmps72
    go_wp2_with (go_at_call 74; refine (find_any bs id _ _ HL.out.reads hl).mono ?_; intro e w2 hor; obtain ⟨hb2, rfl⟩ := find_no HF.out hor; unfold bnA zeroB)
    go_ret2
    exact ⟨HL.out.to (hb2.trans ((box3 w2 _).mono hb2.size)), .inl ⟨by rw [HK.out]; decide, by rw [HK.out]; rfl⟩⟩
  | some x =>
    have HF := Hid.mk2 hf
    obtain ⟨o1, o2, ⟨o3, o4⟩, ⟨o5, o6⟩, o7⟩ := hok x (findB_mem hf)
    clear hok
    by_cases h1 : n < 1
    · have HK : Hid (putK bs id n = 13) := by rw [Hid, putK, hf]; simp [h1]
      clear hf
      go_enter Tryz.func72, Tryz.ntmps72
      go_wp2_with (go_at_call 74; refine (find_any bs id _ _ HL.out.reads hl).mono ?_; intro e w2 hor; obtain ⟨hb2, rfl⟩ := find_some HF.out hor; unfold bnA)
      go_ret2
      exact ⟨HL.out.to (hb2.trans ((box3 w2 _).mono hb2.size)), .inl ⟨by rw [HK.out]; decide, by rw [HK.out]; rfl⟩⟩
    by_cases h2 : x.cap - x.used < n
    · have HK : Hid (putK bs id n = 11) := by rw [Hid, putK, hf]; simp [h1, h2]
      clear hf
      go_enter Tryz.func72, Tryz.ntmps72
      go_wp2_with (go_at_call 74; refine (find_any bs id _ _ HL.out.reads hl).mono ?_; intro e w2 hor; obtain ⟨hb2, rfl⟩ := find_some HF.out hor; unfold bnA)
      go_ret2
      exact ⟨HL.out.to (hb2.trans ((box3 w2 _).mono hb2.size)), .inl ⟨by rw [HK.out]; decide, by rw [HK.out]; rfl⟩⟩
    · have HK : Hid (putK bs id n = 0) := by rw [Hid, putK, hf]; simp [h1, h2]
      have HB : Hid (putB bs id n = replB bs ⟨x.id, x.zone, x.cap, x.used + n, x.has⟩) := by rw [Hid, putB, hf]
      clear hf
      go_enter Tryz.func72, Tryz.ntmps72
      go_wp2_with (first
        | (go_at_call 74; refine (find_any bs id _ _ HL.out.reads hl).mono ?_; intro e w2 hor; obtain ⟨hb2, rfl⟩ := find_some HF.out hor; unfold bnA; replace HL := Hid.mk2 (HL.out.below hb2))
        | (go_at_call 105; refine (replaced_any bs ⟨x.id, x.zone, x.cap, x.used + n, x.has⟩ _ _ (HL.out.al _).reads hl).mono ?_; rintro e w3 ⟨hb3, v', rfl, hown⟩; obtain ⟨a', c', rfl⟩ := (reads_of_own hown).shape))
      go_ret2
      refine ⟨(HL.out.al _).to hb3, .inr ⟨HK.out, a', c', ?_, ?_⟩⟩
      · rw [HB.out, replB_length] <;> rfl
      · rw [HB.out, replB_length]; exact (HL.out.al _).own hown
set_option maxHeartbeats 2000000 in
theorem sPick_any (bs : List Bn) (id n : Int) (hn : In64 n) (v : Value) (w : World) (h : Reads w v bs.length (cellsB bs)) (hl : bs.length ≤ 100) (hok : ∀ b ∈ bs, b.Ok) :
    Calls Tryz.prog 73 #[v, .int .i64 id, .int .i64 n] w fun e w' => Below w.heap.size w w' ∧ RowOr w w' e (pickK bs id n) (pickB bs id n) := by
  have HL : Hid (Lst w w bs v) := ⟨h, Below.refl _ _⟩
  obtain ⟨a, c, rfl⟩ := h.shape
  obtain ⟨hn1, hn2⟩ := hn
  clear h
  cases hf : findB bs id with
  | none =>
    have HK : Hid (pickK bs id n = 12) := by rw [Hid, pickK, hf]
    have HF := Hid.mk2 hf
    clear hf hok
    go_enter Tryz.func73, Tryz.ntmps73
    go_wp2_with (go_at_call 74; refine (find_any bs id _ _ HL.out.reads hl).mono ?_; intro e w2 hor; obtain ⟨hb2, rfl⟩ := find_no HF.out hor; unfold bnA zeroB)
    go_ret2
    exact ⟨HL.out.to (hb2.trans ((box3 w2 _).mono hb2.size)), .inl ⟨by rw [HK.out]; decide, by rw [HK.out]; rfl⟩⟩
  | some x =>
    have HF := Hid.mk2 hf
    obtain ⟨o1, o2, ⟨o3, o4⟩, ⟨o5, o6⟩, o7⟩ := hok x (findB_mem hf)
    clear hok
    by_cases h1 : n < 1
    · have HK : Hid (pickK bs id n = 13) := by rw [Hid, pickK, hf]; simp [h1]
      clear hf
      go_enter Tryz.func73, Tryz.ntmps73
      go_wp2_with (go_at_call 74; refine (find_any bs id _ _ HL.out.reads hl).mono ?_; intro e w2 hor; obtain ⟨hb2, rfl⟩ := find_some HF.out hor; unfold bnA)
      go_ret2
      exact ⟨HL.out.to (hb2.trans ((box3 w2 _).mono hb2.size)), .inl ⟨by rw [HK.out]; decide, by rw [HK.out]; rfl⟩⟩
    by_cases h2 : x.used < n
    · have HK : Hid (pickK bs id n = 14) := by rw [Hid, pickK, hf]; simp [h1, h2]
      clear hf
      go_enter Tryz.func73, Tryz.ntmps73
      go_wp2_with (go_at_call 74; refine (find_any bs id _ _ HL.out.reads hl).mono ?_; intro e w2 hor; obtain ⟨hb2, rfl⟩ := find_some HF.out hor; unfold bnA)
      go_ret2
      exact ⟨HL.out.to (hb2.trans ((box3 w2 _).mono hb2.size)), .inl ⟨by rw [HK.out]; decide, by rw [HK.out]; rfl⟩⟩
    · have HK : Hid (pickK bs id n = 0) := by rw [Hid, pickK, hf]; simp [h1, h2]
      have HB : Hid (pickB bs id n = replB bs ⟨x.id, x.zone, x.cap, x.used - n, x.has⟩) := by rw [Hid, pickB, hf]
      clear hf
      go_enter Tryz.func73, Tryz.ntmps73
      go_wp2_with (first
        | (go_at_call 74; refine (find_any bs id _ _ HL.out.reads hl).mono ?_; intro e w2 hor; obtain ⟨hb2, rfl⟩ := find_some HF.out hor; unfold bnA; replace HL := Hid.mk2 (HL.out.below hb2))
        | (go_at_call 105; refine (replaced_any bs ⟨x.id, x.zone, x.cap, x.used - n, x.has⟩ _ _ (HL.out.al _).reads hl).mono ?_; rintro e w3 ⟨hb3, v', rfl, hown⟩; obtain ⟨a', c', rfl⟩ := (reads_of_own hown).shape))
      go_ret2
      refine ⟨(HL.out.al _).to hb3, .inr ⟨HK.out, a', c', ?_, ?_⟩⟩
      · rw [HB.out, replB_length] <;> rfl
      · rw [HB.out, replB_length]; exact (HL.out.al _).own hown
end Go.Proofs.YtnnbhebklnappaaGreatDoor

set_option linter.unusedVariables false
set_option linter.unusedSimpArgs false
namespace Go.Proofs.YtnnbhebklnappaaGreatDoor
open Go.RowKit

/-- A store in memory: its bins, its image. -/
structure StoreAt (w : World) (sb : Nat) (bs : List Bn) (im : ByteArray) : Prop where
  ok : ∃ a c, Blk w sb #[.slice a bs.length c, .string im] 95 ∧ w.ownsRow (sb + 1) 25 5 (.slice a bs.length c) bs.length (cellsB bs)
theorem StoreAt.lt {w : World} {sb : Nat} {bs : List Bn} {im : ByteArray} (h : StoreAt w sb bs im) : sb < w.heap.size := by
  obtain ⟨a, c, h1, _⟩ := h.ok
  exact h1.lt
theorem StoreAt.below {w w' : World} {sb : Nat} {bs : List Bn} {im : ByteArray} (h : StoreAt w sb bs im) (hb : Below w.heap.size w w') : StoreAt w' sb bs im := by
  obtain ⟨a, c, h1, h2⟩ := h.ok
  exact ⟨a, c, h1.below hb h1.lt, own_below h2 hb⟩
theorem own_but {w w' : World} {base fb : Nat} {e : TypeId} {s n : Nat} {v : Value} {xs : List Value} (h : w.ownsRow base e s v n xs) (hb : But fb w w') (hne : ∀ k, v.ownBlock = some k → k ≠ fb) : w'.ownsRow base e s v n xs := by
  refine ⟨h.1, ?_⟩
  rcases h.2 with hn | ⟨g, cap, cur, rfl, hbg, hh, r⟩
  · exact .inl hn
  · exact .inr ⟨g, cap, cur, rfl, hbg, (hb.block g (hne g rfl) (lt_of_block hh)).trans hh, r⟩
/-- The store's list is the old one, or it lies in a new block. -/
def RowNew (w w' : World) (sb : Nat) : Prop := ∀ v im, Blk w' sb #[v, .string im] 95 → (∃ im0, Blk w sb #[v, .string im0] 95) ∨ ∀ k, v.ownBlock = some k → w.heap.size ≤ k
theorem Blk.same {w : World} {b : Nat} {c1 c2 : Array Value} {t1 t2 : TypeId} (h1 : Blk w b c1 t1) (h2 : Blk w b c2 t2) : c1 = c2 := by
  unfold Blk at h1 h2
  rw [h1] at h2
  injection h2 with h2
  injection h2
theorem RowNew.same {w w1 : World} {sb : Nat} (hlt : sb < w.heap.size) (hb : Below w.heap.size w w1) : RowNew w w1 sb := fun v im h => .inl ⟨im, (hb.block sb hlt).symm.trans h⟩
theorem RowNew.pre {w w1 w' : World} {sb : Nat} (hlt : sb < w.heap.size) (hb : Below w.heap.size w w1) (h : RowNew w1 w' sb) : RowNew w w' sb := by
  intro v im hv
  rcases h v im hv with ⟨im0, h0⟩ | h0
  · exact .inl ⟨im0, (hb.block sb hlt).symm.trans h0⟩
  · exact .inr fun k hk => Nat.le_trans hb.size (h0 k hk)
/-- A store in which one field changes its list. -/
theorem StoreAt.put {w w1 : World} {sb : Nat} {bs bs' : List Bn} {im : ByteArray} (h : StoreAt w sb bs im) (hb : Below w.heap.size w w1) {a : Option Addr} {c : Nat} (ho : w1.ownsRow w.heap.size 25 5 (.slice a bs'.length c) bs'.length (cellsB bs')) :
    StoreAt (w1.setCell ⟨sb, 0, none⟩ (.slice a bs'.length c)) sb bs' im ∧ But sb w (w1.setCell ⟨sb, 0, none⟩ (.slice a bs'.length c)) ∧ RowNew w (w1.setCell ⟨sb, 0, none⟩ (.slice a bs'.length c)) sb := by
  obtain ⟨a0, c0, h1, h2⟩ := h.ok
  have h1' := h1.below hb h1.lt
  have hlt := h1.lt
  refine ⟨⟨a, c, h1'.set 0 _, ?_⟩, (But.of hb).trans (But.set sb 0 _ h1'.lt), ?_⟩
  · refine own_low (own_but ho (But.set sb 0 _ h1'.lt) fun k hk => ?_) hlt
    have := (ho.lt k hk).1
    omega
  · intro v im' hv
    have := Blk.same hv (h1'.set 0 (.slice a bs'.length c))
    have hv' : v = .slice a bs'.length c := by
      have h3 := congrArg (fun x : Array Value => x[0]?) this
      simpa using h3
    subst hv'
    exact .inr fun k hk => (ho.lt k hk).1
set_option maxHeartbeats 1000000 in
theorem stRemove_any (sb : Nat) (bs : List Bn) (im : ByteArray) (id : Int) (w : World) (h : StoreAt w sb bs im) (hl : bs.length ≤ 100) :
    Calls Tryz.prog 48 #[.pointer (some ⟨sb, 0, none⟩), .int .i64 id] w fun e w' => e = .returned (.int .i64 (remK bs id)) ∧ StoreAt w' sb (if remK bs id = 0 then dropB bs id else bs) im ∧ But sb w w' ∧ RowNew w w' sb := by
  have HS := Hid.mk2 h
  obtain ⟨a, c, h1, h2⟩ := h.ok
  have c0 := h1.cell 0
  have HO := Hid.mk2 (reads_of_own h2)
  clear h
  generalize hk : remK bs id = k
  have HK := Hid.mk2 hk
  clear hk
  go_enter Tryz.func48, Tryz.ntmps48
  go_wp2_with (go_at_call 71; refine (sRemove_any bs id _ _ HO.out hl).mono ?_; rintro e w1 ⟨hb1, hor⟩; rw [HK.out] at hor; have hB := h1.below hb1 h1.lt; have c1 := hB.cell 0; have f1 := hB.free 0; rcases hor with ⟨hk0, rfl⟩ | ⟨rfl, a', c', rfl, hown⟩)
  · go_ret
    exact ⟨rfl, HS.out.below hb1, But.of hb1, RowNew.same HS.out.lt hb1⟩
  · go_ret
    have := HS.out.put hb1 hown
    exact ⟨rfl, this⟩
set_option maxHeartbeats 1000000 in
theorem stPut_any (sb : Nat) (bs : List Bn) (im : ByteArray) (id n : Int) (hn : In64 n) (w : World) (h : StoreAt w sb bs im) (hl : bs.length ≤ 100) (hok : ∀ b ∈ bs, b.Ok) :
    Calls Tryz.prog 49 #[.pointer (some ⟨sb, 0, none⟩), .int .i64 id, .int .i64 n] w fun e w' => e = .returned (.int .i64 (putK bs id n : Nat)) ∧ StoreAt w' sb (if putK bs id n = 0 then putB bs id n else bs) im ∧ But sb w w' ∧ RowNew w w' sb := by
  have HS := Hid.mk2 h
  obtain ⟨a, c, h1, h2⟩ := h.ok
  have c0 := h1.cell 0
  have HO := Hid.mk2 (reads_of_own h2)
  clear h
  generalize hk : putK bs id n = k
  have HK := Hid.mk2 hk
  clear hk
  go_enter Tryz.func49, Tryz.ntmps49
  go_wp2_with (go_at_call 72; refine (sPut_any bs id n hn _ _ HO.out hl hok).mono ?_; rintro e w1 ⟨hb1, hor⟩; rw [HK.out] at hor; have hB := h1.below hb1 h1.lt; have c1 := hB.cell 0; have f1 := hB.free 0; rcases hor with ⟨hk0, rfl⟩ | ⟨rfl, a', c', rfl, hown⟩)
  · go_ret
    exact ⟨rfl, HS.out.below hb1, But.of hb1, RowNew.same HS.out.lt hb1⟩
  · go_ret
    have := HS.out.put hb1 hown
    exact ⟨rfl, this⟩
set_option maxHeartbeats 1000000 in
theorem stPick_any (sb : Nat) (bs : List Bn) (im : ByteArray) (id n : Int) (hn : In64 n) (w : World) (h : StoreAt w sb bs im) (hl : bs.length ≤ 100) (hok : ∀ b ∈ bs, b.Ok) :
    Calls Tryz.prog 50 #[.pointer (some ⟨sb, 0, none⟩), .int .i64 id, .int .i64 n] w fun e w' => e = .returned (.int .i64 (pickK bs id n : Nat)) ∧ StoreAt w' sb (if pickK bs id n = 0 then pickB bs id n else bs) im ∧ But sb w w' ∧ RowNew w w' sb := by
  have HS := Hid.mk2 h
  obtain ⟨a, c, h1, h2⟩ := h.ok
  have c0 := h1.cell 0
  have HO := Hid.mk2 (reads_of_own h2)
  clear h
  generalize hk : pickK bs id n = k
  have HK := Hid.mk2 hk
  clear hk
  go_enter Tryz.func50, Tryz.ntmps50
  go_wp2_with (go_at_call 73; refine (sPick_any bs id n hn _ _ HO.out hl hok).mono ?_; rintro e w1 ⟨hb1, hor⟩; rw [HK.out] at hor; have hB := h1.below hb1 h1.lt; have c1 := hB.cell 0; have f1 := hB.free 0; rcases hor with ⟨hk0, rfl⟩ | ⟨rfl, a', c', rfl, hown⟩)
  · go_ret
    exact ⟨rfl, HS.out.below hb1, But.of hb1, RowNew.same HS.out.lt hb1⟩
  · go_ret
    have := HS.out.put hb1 hown
    exact ⟨rfl, this⟩
set_option maxHeartbeats 1000000 in
theorem stBins_any (sb : Nat) (bs : List Bn) (im : ByteArray) (w : World) (h : StoreAt w sb bs im) (hl : bs.length ≤ 100) :
    Calls Tryz.prog 21 #[.pointer (some ⟨sb, 0, none⟩)] w fun e w' => Below w.heap.size w w' ∧ ∃ a c, e = .returned (.slice a bs.length c) ∧ w'.ownsRow w.heap.size 25 5 (.slice a bs.length c) bs.length (cellsB bs) := by
  obtain ⟨a, c, h1, h2⟩ := h.ok
  have c0 := h1.cell 0
  have HO := Hid.mk2 (reads_of_own h2)
  clear h
  go_enter Tryz.func21, Tryz.ntmps21
  go_wp2_with (go_at_call 52; refine (Copy_any bs _ _ HO.out hl).mono ?_; rintro e w1 ⟨hb1, v', rfl, hown⟩; obtain ⟨a', c', rfl⟩ := (reads_of_own hown).shape)
  go_ret
  exact ⟨hb1, _, _, rfl, hown⟩
set_option maxHeartbeats 2000000 in
theorem stAdd_any (sb : Nat) (bs : List Bn) (im : ByteArray) (b : Bn) (w : World) (h : StoreAt w sb bs im) (hl : bs.length ≤ 100) :
    Calls Tryz.prog 20 #[.pointer (some ⟨sb, 0, none⟩), bnA b] w fun e w' => e = .returned (.int .i64 (addK bs b : Nat)) ∧ StoreAt w' sb (if addK bs b = 0 then insB bs b else bs) im ∧ But sb w w' ∧ RowNew w w' sb := by
  have HS := Hid.mk2 (h.below (box3 w (.cells #[.int .i64 b.id, .int .i64 b.zone, .int .i64 b.cap, .int .i64 b.used, .int .i64 b.has] 25)))
  have hlt := h.lt
  have HN := Hid.mk2 (Blk.new w #[.int .i64 b.id, .int .i64 b.zone, .int .i64 b.cap, .int .i64 b.used, .int .i64 b.has] 25)
  have HWB := Hid.mk2 (box3 w (.cells #[.int .i64 b.id, .int .i64 b.zone, .int .i64 b.cap, .int .i64 b.used, .int .i64 b.has] 25))
  have HW : Hid (But sb w (w.alloc (.cells #[.int .i64 b.id, .int .i64 b.zone, .int .i64 b.cap, .int .i64 b.used, .int .i64 b.has] 25))) := But.of (box3 w _)
  obtain ⟨a, c, h1, h2⟩ := HS.out.ok
  have HO := Hid.mk2 (reads_of_own h2)
  have H1 := Hid.mk2 h1
  clear h h1 h2
  generalize hk : addK bs b = k
  have HK := Hid.mk2 hk
  clear hk
  unfold bnA
  go_enter Tryz.func20, Tryz.ntmps20
  go_wp2
  generalize hw1 : w.alloc (.cells #[.int .i64 b.id, .int .i64 b.zone, .int .i64 b.cap, .int .i64 b.used, .int .i64 b.has] 25) = w1 at *
  clear hw1
  have c0 := H1.out.cell 0
  have d0 := HN.out.cell 0
  have d1 := HN.out.cell 1
  have d2 := HN.out.cell 2
  have d3 := HN.out.cell 3
  have d4 := HN.out.cell 4
  by_cases hk0 : k = 0
  · subst hk0
    go_region_with (go_at_call 51; refine (sAdd_any bs b _ _ (HO.out.drew) hl).mono ?_; rintro e w2 ⟨hb1, hor⟩; rw [HK.out] at hor; have hB := H1.out.drew.below hb1 H1.out.lt; have c1 := hB.cell 0; have f1 := hB.free 0; obtain ⟨_, a', c', rfl, hown⟩ := hor.resolve_left (fun h => h.1 rfl))
    all_goals
      go_wp2
      go_ret
      have hb1' : Below w1.heap.size w1 w2 := (below_drewN (Below.refl w1.heap.size w1) 1).trans hb1
      have := HS.out.put hb1' hown
      exact ⟨rfl, this.1, HW.out.trans this.2.1, RowNew.pre hlt HWB.out this.2.2⟩
  · have hk1 : ((k : Int) == 0) = false := by simp; omega
    go_region_with (go_at_call 51; refine (sAdd_any bs b _ _ (HO.out.drew) hl).mono ?_; rintro e w2 ⟨hb1, hor⟩; rw [HK.out] at hor; have hB := H1.out.drew.below hb1 H1.out.lt; have c1 := hB.cell 0; have f1 := hB.free 0; obtain ⟨_, rfl⟩ := hor.resolve_right (fun h => hk0 h.1))
    all_goals
      go_wp2
      go_ret
      have hb1' : Below w1.heap.size w1 w2 := (below_drewN (Below.refl w1.heap.size w1) 1).trans hb1
      exact ⟨rfl, HS.out.below hb1', HW.out.trans (But.of hb1'), RowNew.pre hlt HWB.out (RowNew.same HS.out.lt hb1')⟩
end Go.Proofs.YtnnbhebklnappaaGreatDoor
