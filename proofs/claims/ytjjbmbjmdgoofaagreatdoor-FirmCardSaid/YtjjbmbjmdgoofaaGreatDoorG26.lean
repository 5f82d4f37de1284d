/-
  The program's list of bins: replaced; Add, Remove, Put, Pick.
-/
import Derived.Test.YtjjbmbjmdgoofaaGreatDoorG25
set_option linter.unusedVariables false
set_option linter.unusedSimpArgs false
namespace Go.Proofs.YtjjbmbjmdgoofaaGreatDoor
open Go.RowKit
def mixB (bs : List Bn) (b : Bn) (i : Nat) : List Bn := bs.mapIdx fun j x => if j < i ∧ x.id = b.id then b else x
theorem mixB_length (bs : List Bn) (b : Bn) (i : Nat) : (mixB bs b i).length = bs.length := by simp [mixB]
theorem mixB_zero (bs : List Bn) (b : Bn) : mixB bs b 0 = bs := by
  apply List.ext_getElem
  · simp [mixB]
  · intro j h1 h2; simp [mixB]
theorem mixB_end (bs : List Bn) (b : Bn) : mixB bs b bs.length = replB bs b := by
  apply List.ext_getElem
  · simp [mixB, replB]
  · intro j h1 h2
    have hj : j < bs.length := by simpa [replB] using h2
    simp [mixB, replB, hj]
theorem mixB_at (bs : List Bn) (b : Bn) (i : Nat) (hi : i < bs.length) : (mixB bs b i)[i]'(by rw [mixB_length]; exact hi) = bs[i] := by simp [mixB]
theorem mixB_yes (bs : List Bn) (b : Bn) (i : Nat) (hi : i < bs.length) (h : bs[i].id = b.id) : mixB bs b (i + 1) = (mixB bs b i).set i b := by
  apply List.ext_getElem
  · simp [mixB]
  · intro j h1 h2
    have hj : j < bs.length := by simpa [mixB] using h1
    rw [List.getElem_set]
    simp only [mixB, List.getElem_mapIdx]
    by_cases hij : i = j
    · subst hij; simp [h]
    · rw [if_neg hij]
      by_cases hji : j < i
      · simp [hji, show j < i + 1 by omega]
      · simp [hji, show ¬ j < i + 1 by omega]
theorem mixB_no (bs : List Bn) (b : Bn) (i : Nat) (hi : i < bs.length) (h : ¬ bs[i].id = b.id) : mixB bs b (i + 1) = mixB bs b i := by
  apply List.ext_getElem
  · simp [mixB]
  · intro j h1 h2
    have hj : j < bs.length := by simpa [mixB] using h1
    simp only [mixB, List.getElem_mapIdx]
    by_cases hij : i = j
    · subst hij; simp [h]
    · by_cases hji : j < i
      · simp [hji, show j < i + 1 by omega]
      · simp [hji, show ¬ j < i + 1 by omega]
set_option maxHeartbeats 2000000 in
theorem replaced_any (bs : List Bn) (b : Bn) (v : Value) (w : World) (h : Reads w v bs.length (cellsB bs)) (hl : bs.length ≤ 100) :
    Calls Tryz.prog 108 #[v, bnA b] w fun e w' => Below w.heap.size w w' ∧ ∃ v', e = .returned v' ∧ w'.ownsRow w.heap.size 31 5 v' bs.length (cellsB (replB bs b)) := by
  have HH := Hid.mk2 (h.alloc (.cells #[.int .i64 b.id, .int .i64 b.zone, .int .i64 b.cap, .int .i64 b.used, .int .i64 b.has] 31))
  have HN := Hid.mk2 (Blk.new w #[.int .i64 b.id, .int .i64 b.zone, .int .i64 b.cap, .int .i64 b.used, .int .i64 b.has] 31)
  have HW := Hid.mk2 (box3 w (.cells #[.int .i64 b.id, .int .i64 b.zone, .int .i64 b.cap, .int .i64 b.used, .int .i64 b.has] 31))
  have hz : (w.alloc (.cells #[.int .i64 b.id, .int .i64 b.zone, .int .i64 b.cap, .int .i64 b.used, .int .i64 b.has] 31)).heap.size = w.heap.size + 1 := by simp
  clear h
  unfold bnA
  go_enter Tryz.func108, Tryz.ntmps108
  go_wp2_with (go_at_call 49; refine (Copy_any bs v _ HH.out hl).mono ?_; rintro e w2 ⟨hb2, v', rfl, hown2⟩; obtain ⟨a, c, rfl⟩ := (reads_of_own hown2).shape)
  generalize hw1 : w.alloc (.cells #[.int .i64 b.id, .int .i64 b.zone, .int .i64 b.cap, .int .i64 b.used, .int .i64 b.has] 31) = w1 at *
  clear hw1
  have hbl := HN.out.lt
  have HO := Hid.mk2 hown2
  clear hown2
  go_loopw [6] (fun vi wr => ∃ (i : Nat), i ≤ bs.length ∧ vi = .int .i64 i ∧ wr.ownsRow w1.heap.size 31 5 (.slice a bs.length c) (mixB bs b i).length (cellsB (mixB bs b i)) ∧ Below w1.heap.size w1 wr) (fun i _ => bs.length - (intOf i).toNat)
  case atStart => exact ⟨0, Nat.zero_le _, rfl, by rw [mixB_zero]; exact HO.out, hb2⟩
  case round =>
    obtain ⟨i, hi, rfl, hown, hbel⟩ := hrel
    have hbs := hbel.size
    have HB := Hid.mk2 (HN.out.below hbel hbl)
    have d0 := HB.out.cell 0
    have d1 := HB.out.cell 1
    have d2 := HB.out.cell 2
    have d3 := HB.out.cell 3
    have d4 := HB.out.cell 4
    by_cases hlt : i < bs.length
    · have hml : i < (mixB bs b i).length := by rw [mixB_length]; exact hlt
      obtain ⟨g, cap, hv, hbg, hg, hcap, hfr, e0, e1, e2, e3, e4⟩ := own_cells hown i hml
      rw [mixB_length] at hv
      cases hv
      have f0 := hfr (i * 5)
      have f1 := hfr (i * 5 + 1)
      have f2 := hfr (i * 5 + 2)
      have f3 := hfr (i * 5 + 3)
      have f4 := hfr (i * 5 + 4)
      have HM := Hid.mk2 (mixB_at bs b i hlt)
      have HL := Hid.mk2 (mixB_length bs b i)
      rw [HL.out] at hcap
      by_cases heq : bs[i].id = b.id
      · have HY := Hid.mk2 (mixB_yes bs b i hlt heq)
        rw [HM.out] at e0 e1 e2 e3 e4
        have heq' : (bs[i].id == b.id) = true := by simpa using heq
        generalize hx : bs[i] = x at *
        clear heq hx hfr HM
        generalize hmx : mixB bs b i = mx at *
        clear hmx
        go_wp2
        go_quiet (fail)
        go_wp2
        go_roundw
        case rel =>
          refine ⟨i + 1, by omega, by go_num, ?_, ?_⟩
          · rw [HY.out, List.length_set]
            rw [HL.out] at hown ⊢
            exact own_set5 (own_drewN hown _) i hml b
          · exact below_set5 (below_drewN hbel _) g i hbg b
        case measure => simp [intOf]; omega
      · have HY := Hid.mk2 (mixB_no bs b i hlt heq)
        rw [HM.out] at e0 e1 e2 e3 e4
        have heq' : (bs[i].id == b.id) = false := by simpa using heq
        generalize hx : bs[i] = x at *
        clear heq hx hfr
        go_wp2
        go_quiet (fail)
        go_wp2
        go_roundw
        case rel => exact ⟨i + 1, by omega, by go_num, by rw [HY.out]; exact own_drewN hown _, below_drewN hbel _⟩
        case measure => simp [intOf]; omega
    · obtain rfl : i = bs.length := by omega
      go_wp2
      go_ret
      refine ⟨HW.out.trans (hbel.mono (by omega)), _, rfl, ?_⟩
      rw [mixB_length, mixB_end] at hown
      exact own_low hown (by omega)
end Go.Proofs.YtjjbmbjmdgoofaaGreatDoor
namespace Go.Proofs.YtjjbmbjmdgoofaaGreatDoor
open Go.RowKit
structure Lst (w wx : World) (bs : List Bn) (v : Value) : Prop where
  reads : Reads wx v bs.length (cellsB bs)
  bl : Below w.heap.size w wx
theorem Lst.below {w wx w' : World} {bs : List Bn} {v : Value} (h : Lst w wx bs v) (hb : Below wx.heap.size wx w') : Lst w w' bs v := ⟨h.reads.below hb, h.bl.trans (hb.mono h.bl.size)⟩
theorem Lst.al {w wx : World} {bs : List Bn} {v : Value} (h : Lst w wx bs v) (o : Obj) : Lst w (wx.alloc o) bs v := h.below (box3 wx o)
theorem Lst.to {w wx w' : World} {bs : List Bn} {v : Value} (h : Lst w wx bs v) (hb : Below wx.heap.size wx w') : Below w.heap.size w w' := h.bl.trans (hb.mono h.bl.size)
theorem Lst.own {w wx w' : World} {bs : List Bn} {v v' : Value} {n : Nat} {xs : List Value} (h : Lst w wx bs v) (ho : w'.ownsRow wx.heap.size 31 5 v' n xs) : w'.ownsRow w.heap.size 31 5 v' n xs := own_low ho h.bl.size
theorem find_some {bs : List Bn} {id : Int} {b : Bn} {e : Ending} {P : Prop} (hf : findB bs id = some b) (h : P ∧ ((∃ b, findB bs id = some b ∧ e = .returned (.tuple #[bnA b, .bool true])) ∨ (findB bs id = none ∧ e = .returned (.tuple #[bnA zeroB, .bool false])))) : P ∧ e = .returned (.tuple #[bnA b, .bool true]) := by
  obtain ⟨hp, ⟨b', h1, h2⟩ | ⟨h1, _⟩⟩ := h
  · rw [hf] at h1; cases h1; exact ⟨hp, h2⟩
  · rw [hf] at h1; cases h1
theorem find_no {bs : List Bn} {id : Int} {e : Ending} {P : Prop} (hf : findB bs id = none) (h : P ∧ ((∃ b, findB bs id = some b ∧ e = .returned (.tuple #[bnA b, .bool true])) ∨ (findB bs id = none ∧ e = .returned (.tuple #[bnA zeroB, .bool false])))) : P ∧ e = .returned (.tuple #[bnA zeroB, .bool false]) := by
  obtain ⟨hp, ⟨b', h1, h2⟩ | ⟨_, h2⟩⟩ := h
  · rw [hf] at h1; cases h1
  · exact ⟨hp, h2⟩
def addK (bs : List Bn) (b : Bn) : Nat := if bnB b = false then 9 else if (findB bs b.id).isSome then 10 else if 12 ≤ bs.length then 11 else 0
def remK (bs : List Bn) (id : Int) : Nat := match findB bs id with
  | none => 12
  | some b => if 0 < b.used then 14 else 0
def putK (bs : List Bn) (id n : Int) : Nat := match findB bs id with
  | none => 12
  | some b => if n < 1 then 13 else if b.cap - b.used < n then 11 else 0
def pickK (bs : List Bn) (id n : Int) : Nat := match findB bs id with
  | none => 12
  | some b => if n < 1 then 13 else if b.used < n then 14 else 0
def putB (bs : List Bn) (id n : Int) : List Bn := match findB bs id with
  | none => bs
  | some b => replB bs { b with used := b.used + n }
def pickB (bs : List Bn) (id n : Int) : List Bn := match findB bs id with
  | none => bs
  | some b => replB bs { b with used := b.used - n }
def RowOr (w w' : World) (e : Ending) (k : Nat) (bs' : List Bn) : Prop :=
  (k ≠ 0 ∧ e = .returned (.tuple #[.slice none 0 0, .int .i64 k])) ∨ (k = 0 ∧ ∃ a c, e = .returned (.tuple #[.slice a bs'.length c, .int .i64 0]) ∧ w'.ownsRow w.heap.size 31 5 (.slice a bs'.length c) bs'.length (cellsB bs'))
set_option maxHeartbeats 2000000 in
theorem sAdd_any (bs : List Bn) (b : Bn) (v : Value) (w : World) (h : Reads w v bs.length (cellsB bs)) (hl : bs.length ≤ 100) :
    Calls Tryz.prog 48 #[v, bnA b] w fun e w' => Below w.heap.size w w' ∧ RowOr w w' e (addK bs b) (insB bs b) := by
  have HL : Hid (Lst w (w.alloc (.cells #[.int .i64 b.id, .int .i64 b.zone, .int .i64 b.cap, .int .i64 b.used, .int .i64 b.has] 31)) bs v) := ⟨h.alloc _, box3 w _⟩
  have HN := Hid.mk2 (Blk.new w #[.int .i64 b.id, .int .i64 b.zone, .int .i64 b.cap, .int .i64 b.used, .int .i64 b.has] 31)
  obtain ⟨a, c, rfl⟩ := h.shape
  clear h
  cases hy : bnB b
  · have HK : Hid (addK bs b = 9) := by rw [Hid, addK, if_pos hy]
    unfold bnA
    go_enter Tryz.func48, Tryz.ntmps48
    go_wp2_with (go_at_call 72; refine (pIsBin_any b _).mono ?_; rintro e w1 ⟨rfl, hb1⟩; rw [hy])
    first | go_ret2 | go_ret3 | go_ret
    exact ⟨HL.out.to hb1, .inl ⟨by rw [HK.out]; decide, by rw [HK.out]; rfl⟩⟩
  cases hf : findB bs b.id with
  | some x =>
    have HK : Hid (addK bs b = 10) := by rw [Hid, addK, if_neg (by simp [hy]), hf]; rfl
    have HF := Hid.mk2 hf
    clear hf
    unfold bnA
    go_enter Tryz.func48, Tryz.ntmps48
    go_wp2_with (first
      | (go_at_call 72; refine (pIsBin_any b _).mono ?_; rintro e w1 ⟨rfl, hb1⟩; rw [hy]; replace HL := Hid.mk2 (HL.out.below hb1); replace HN := Hid.mk2 (HN.out.below hb1 HN.out.lt); have d0 := HN.out.cell 0)
      | (go_at_call 76; refine (find_any bs b.id _ _ HL.out.reads hl).mono ?_; intro e w2 hor; obtain ⟨hb2, rfl⟩ := find_some HF.out hor; unfold bnA))
    first | go_ret2 | go_ret3 | go_ret
    exact ⟨HL.out.to (hb2.trans ((box3 w2 _).mono hb2.size)), .inl ⟨by rw [HK.out]; decide, by rw [HK.out]; rfl⟩⟩
  | none =>
    have HF := Hid.mk2 hf
    by_cases h12 : 12 ≤ bs.length
    · have HK : Hid (addK bs b = 11) := by rw [Hid, addK, if_neg (by simp [hy]), hf, if_neg (by simp), if_pos h12]
      clear hf
      unfold bnA
      go_enter Tryz.func48, Tryz.ntmps48
      go_wp2_with (first
        | (go_at_call 72; refine (pIsBin_any b _).mono ?_; rintro e w1 ⟨rfl, hb1⟩; rw [hy]; replace HL := Hid.mk2 (HL.out.below hb1); replace HN := Hid.mk2 (HN.out.below hb1 HN.out.lt); have d0 := HN.out.cell 0)
        | (go_at_call 76; refine (find_any bs b.id _ _ HL.out.reads hl).mono ?_; intro e w2 hor; obtain ⟨hb2, rfl⟩ := find_no HF.out hor; unfold bnA zeroB))
      first | go_ret2 | go_ret3 | go_ret
      exact ⟨HL.out.to (hb2.trans ((box3 w2 _).mono hb2.size)), .inl ⟨by rw [HK.out]; decide, by rw [HK.out]; rfl⟩⟩
    · have HK : Hid (addK bs b = 0) := by rw [Hid, addK, if_neg (by simp [hy]), hf, if_neg (by simp), if_neg h12]
      clear hf
      unfold bnA
      go_enter Tryz.func48, Tryz.ntmps48
      go_wp2_with (first
        | (go_at_call 72; refine (pIsBin_any b _).mono ?_; rintro e w1 ⟨rfl, hb1⟩; rw [hy]; replace HL := Hid.mk2 (HL.out.below hb1); replace HN := Hid.mk2 (HN.out.below hb1 HN.out.lt); have d0 := HN.out.cell 0)
        | (go_at_call 76; refine (find_any bs b.id _ _ HL.out.reads hl).mono ?_; intro e w2 hor; obtain ⟨hb2, rfl⟩ := find_no HF.out hor; unfold bnA zeroB; replace HL := Hid.mk2 ((HL.out.below hb2).al (.cells #[.int .i64 0, .int .i64 0, .int .i64 0, .int .i64 0, .int .i64 0] 31)); replace HN := Hid.mk2 ((HN.out.below hb2 HN.out.lt).alloc (.cells #[.int .i64 0, .int .i64 0, .int .i64 0, .int .i64 0, .int .i64 0] 31)); have d0 := HN.out.cell 0; have d1 := HN.out.cell 1; have d2 := HN.out.cell 2; have d3 := HN.out.cell 3; have d4 := HN.out.cell 4)
        | (go_at_call 77; refine (with_any bs b _ _ HL.out.reads hl).mono ?_; rintro e w3 ⟨hb3, v', rfl, hown⟩; obtain ⟨a', c', rfl⟩ := (reads_of_own hown).shape))
      first | go_ret2 | go_ret3 | go_ret
      exact ⟨HL.out.to hb3, .inr ⟨HK.out, _, _, rfl, HL.out.own hown⟩⟩
end Go.Proofs.YtjjbmbjmdgoofaaGreatDoor
namespace Go.Proofs.YtjjbmbjmdgoofaaGreatDoor
open Go.RowKit
theorem findB_mem {bs : List Bn} {id : Int} {b : Bn} (h : findB bs id = some b) : b ∈ bs := List.mem_of_find?_eq_some h
theorem replB_length (bs : List Bn) (b : Bn) : (replB bs b).length = bs.length := by simp [replB]
set_option maxHeartbeats 2000000 in
theorem sRemove_any (bs : List Bn) (id : Int) (v : Value) (w : World) (h : Reads w v bs.length (cellsB bs)) (hl : bs.length ≤ 100) :
    Calls Tryz.prog 73 #[v, .int .i64 id] w fun e w' => Below w.heap.size w w' ∧ RowOr w w' e (remK bs id) (dropB bs id) := by
  have HL : Hid (Lst w w bs v) := ⟨h, Below.refl _ _⟩
  obtain ⟨a, c, rfl⟩ := h.shape
  clear h
  cases hf : findB bs id with
  | none =>
    have HK : Hid (remK bs id = 12) := by rw [Hid, remK, hf]
    have HF := Hid.mk2 hf
    clear hf
    go_enter Tryz.func73, Tryz.ntmps73
    go_wp2_with (go_at_call 76; refine (find_any bs id _ _ HL.out.reads hl).mono ?_; intro e w2 hor; obtain ⟨hb2, rfl⟩ := find_no HF.out hor; unfold bnA zeroB)
    go_ret2
    exact ⟨HL.out.to (hb2.trans ((box3 w2 _).mono hb2.size)), .inl ⟨by rw [HK.out]; decide, by rw [HK.out]; rfl⟩⟩
  | some x =>
    have HF := Hid.mk2 hf
    by_cases hu : 0 < x.used
    · have HK : Hid (remK bs id = 14) := by rw [Hid, remK, hf]; simp [hu]
      clear hf
      go_enter Tryz.func73, Tryz.ntmps73
      go_wp2_with (go_at_call 76; refine (find_any bs id _ _ HL.out.reads hl).mono ?_; intro e w2 hor; obtain ⟨hb2, rfl⟩ := find_some HF.out hor; unfold bnA)
      go_ret2
      exact ⟨HL.out.to (hb2.trans ((box3 w2 _).mono hb2.size)), .inl ⟨by rw [HK.out]; decide, by rw [HK.out]; rfl⟩⟩
    · have HK : Hid (remK bs id = 0) := by rw [Hid, remK, hf]; simp [hu]
      clear hf
      go_enter Tryz.func73, Tryz.ntmps73
      go_wp2_with (first
        | (go_at_call 76; refine (find_any bs id _ _ HL.out.reads hl).mono ?_; intro e w2 hor; obtain ⟨hb2, rfl⟩ := find_some HF.out hor; unfold bnA; replace HL := Hid.mk2 (HL.out.below hb2))
        | (go_at_call 107; refine (without_any bs id _ _ (HL.out.al _).reads hl).mono ?_; rintro e w3 ⟨hb3, v', rfl, hown⟩; obtain ⟨a', c', rfl⟩ := (reads_of_own hown).shape))
      go_ret2
      exact ⟨(HL.out.al _).to hb3, .inr ⟨HK.out, _, _, rfl, (HL.out.al _).own hown⟩⟩
set_option maxHeartbeats 2000000 in
theorem sPut_any (bs : List Bn) (id n : Int) (hn : In64 n) (v : Value) (w : World) (h : Reads w v bs.length (cellsB bs)) (hl : bs.length ≤ 100) (hok : ∀ b ∈ bs, b.Ok) :
    Calls Tryz.prog 74 #[v, .int .i64 id, .int .i64 n] w fun e w' => Below w.heap.size w w' ∧ RowOr w w' e (putK bs id n) (putB bs id n) := by
  have HL : Hid (Lst w w bs v) := ⟨h, Below.refl _ _⟩
  obtain ⟨a, c, rfl⟩ := h.shape
  obtain ⟨hn1, hn2⟩ := hn
  clear h
  cases hf : findB bs id with
  | none =>
    have HK : Hid (putK bs id n = 12) := by rw [Hid, putK, hf]
    have HF := Hid.mk2 hf
    clear hf hok
    go_enter Tryz.func74, Tryz.ntmps74
    go_wp2_with (go_at_call 76; refine (find_any bs id _ _ HL.out.reads hl).mono ?_; intro e w2 hor; obtain ⟨hb2, rfl⟩ := find_no HF.out hor; unfold bnA zeroB)
    go_ret2
    exact ⟨HL.out.to (hb2.trans ((box3 w2 _).mono hb2.size)), .inl ⟨by rw [HK.out]; decide, by rw [HK.out]; rfl⟩⟩
  | some x =>
    have HF := Hid.mk2 hf
    obtain ⟨o1, o2, ⟨o3, o4⟩, ⟨o5, o6⟩, o7⟩ := hok x (findB_mem hf)
    clear hok
    by_cases h1 : n < 1
    · have HK : Hid (putK bs id n = 13) := by rw [Hid, putK, hf]; simp [h1]
      clear hf
      go_enter Tryz.func74, Tryz.ntmps74
      go_wp2_with (go_at_call 76; refine (find_any bs id _ _ HL.out.reads hl).mono ?_; intro e w2 hor; obtain ⟨hb2, rfl⟩ := find_some HF.out hor; unfold bnA)
      go_ret2
      exact ⟨HL.out.to (hb2.trans ((box3 w2 _).mono hb2.size)), .inl ⟨by rw [HK.out]; decide, by rw [HK.out]; rfl⟩⟩
    by_cases h2 : x.cap - x.used < n
    · have HK : Hid (putK bs id n = 11) := by rw [Hid, putK, hf]; simp [h1, h2]
      clear hf
      go_enter Tryz.func74, Tryz.ntmps74
      go_wp2_with (go_at_call 76; refine (find_any bs id _ _ HL.out.reads hl).mono ?_; intro e w2 hor; obtain ⟨hb2, rfl⟩ := find_some HF.out hor; unfold bnA)
      go_ret2
      exact ⟨HL.out.to (hb2.trans ((box3 w2 _).mono hb2.size)), .inl ⟨by rw [HK.out]; decide, by rw [HK.out]; rfl⟩⟩
    · have HK : Hid (putK bs id n = 0) := by rw [Hid, putK, hf]; simp [h1, h2]
      have HB : Hid (putB bs id n = replB bs ⟨x.id, x.zone, x.cap, x.used + n, x.has⟩) := by rw [Hid, putB, hf]
      clear hf
      go_enter Tryz.func74, Tryz.ntmps74
      go_wp2_with (first
        | (go_at_call 76; refine (find_any bs id _ _ HL.out.reads hl).mono ?_; intro e w2 hor; obtain ⟨hb2, rfl⟩ := find_some HF.out hor; unfold bnA; replace HL := Hid.mk2 (HL.out.below hb2))
        | (go_at_call 108; refine (replaced_any bs ⟨x.id, x.zone, x.cap, x.used + n, x.has⟩ _ _ (HL.out.al _).reads hl).mono ?_; rintro e w3 ⟨hb3, v', rfl, hown⟩; obtain ⟨a', c', rfl⟩ := (reads_of_own hown).shape))
      go_ret2
      refine ⟨(HL.out.al _).to hb3, .inr ⟨HK.out, a', c', ?_, ?_⟩⟩
      · rw [HB.out, replB_length] <;> rfl
      · rw [HB.out, replB_length]; exact (HL.out.al _).own hown
set_option maxHeartbeats 2000000 in
theorem sPick_any (bs : List Bn) (id n : Int) (hn : In64 n) (v : Value) (w : World) (h : Reads w v bs.length (cellsB bs)) (hl : bs.length ≤ 100) (hok : ∀ b ∈ bs, b.Ok) :
    Calls Tryz.prog 75 #[v, .int .i64 id, .int .i64 n] w fun e w' => Below w.heap.size w w' ∧ RowOr w w' e (pickK bs id n) (pickB bs id n) := by
  have HL : Hid (Lst w w bs v) := ⟨h, Below.refl _ _⟩
  obtain ⟨a, c, rfl⟩ := h.shape
  obtain ⟨hn1, hn2⟩ := hn
  clear h
  cases hf : findB bs id with
  | none =>
    have HK : Hid (pickK bs id n = 12) := by rw [Hid, pickK, hf]
    have HF := Hid.mk2 hf
    clear hf hok
    go_enter Tryz.func75, Tryz.ntmps75
    go_wp2_with (go_at_call 76; refine (find_any bs id _ _ HL.out.reads hl).mono ?_; intro e w2 hor; obtain ⟨hb2, rfl⟩ := find_no HF.out hor; unfold bnA zeroB)
    go_ret2
    exact ⟨HL.out.to (hb2.trans ((box3 w2 _).mono hb2.size)), .inl ⟨by rw [HK.out]; decide, by rw [HK.out]; rfl⟩⟩
  | some x =>
    have HF := Hid.mk2 hf
    obtain ⟨o1, o2, ⟨o3, o4⟩, ⟨o5, o6⟩, o7⟩ := hok x (findB_mem hf)
    clear hok
    by_cases h1 : n < 1
    · have HK : Hid (pickK bs id n = 13) := by rw [Hid, pickK, hf]; simp [h1]
      clear hf
      go_enter Tryz.func75, Tryz.ntmps75
      go_wp2_with (go_at_call 76; refine (find_any bs id _ _ HL.out.reads hl).mono ?_; intro e w2 hor; obtain ⟨hb2, rfl⟩ := find_some HF.out hor; unfold bnA)
      go_ret2
      exact ⟨HL.out.to (hb2.trans ((box3 w2 _).mono hb2.size)), .inl ⟨by rw [HK.out]; decide, by rw [HK.out]; rfl⟩⟩
    by_cases h2 : x.used < n
    · have HK : Hid (pickK bs id n = 14) := by rw [Hid, pickK, hf]; simp [h1, h2]
      clear hf
      go_enter Tryz.func75, Tryz.ntmps75
      go_wp2_with (go_at_call 76; refine (find_any bs id _ _ HL.out.reads hl).mono ?_; intro e w2 hor; obtain ⟨hb2, rfl⟩ := find_some HF.out hor; unfold bnA)
      go_ret2
      exact ⟨HL.out.to (hb2.trans ((box3 w2 _).mono hb2.size)), .inl ⟨by rw [HK.out]; decide, by rw [HK.out]; rfl⟩⟩
    · have HK : Hid (pickK bs id n = 0) := by rw [Hid, pickK, hf]; simp [h1, h2]
      have HB : Hid (pickB bs id n = replB bs ⟨x.id, x.zone, x.cap, x.used - n, x.has⟩) := by rw [Hid, pickB, hf]
      clear hf
      go_enter Tryz.func75, Tryz.ntmps75
      go_wp2_with (first
        | (go_at_call 76; refine (find_any bs id _ _ HL.out.reads hl).mono ?_; intro e w2 hor; obtain ⟨hb2, rfl⟩ := find_some HF.out hor; unfold bnA; replace HL := Hid.mk2 (HL.out.below hb2))
        | (go_at_call 108; refine (replaced_any bs ⟨x.id, x.zone, x.cap, x.used - n, x.has⟩ _ _ (HL.out.al _).reads hl).mono ?_; rintro e w3 ⟨hb3, v', rfl, hown⟩; obtain ⟨a', c', rfl⟩ := (reads_of_own hown).shape))
      go_ret2
      refine ⟨(HL.out.al _).to hb3, .inr ⟨HK.out, a', c', ?_, ?_⟩⟩
      · rw [HB.out, replB_length] <;> rfl
      · rw [HB.out, replB_length]; exact (HL.out.al _).own hown
end Go.Proofs.YtjjbmbjmdgoofaaGreatDoor
