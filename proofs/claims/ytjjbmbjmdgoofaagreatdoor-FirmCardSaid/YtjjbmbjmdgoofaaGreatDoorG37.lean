/-
  The best places: better, with, first.
-/
import Derived.Test.YtjjbmbjmdgoofaaGreatDoorG36
import Derived.Deep.RegionWith
import Derived.Deep.DeepCutAuto
import Derived.Test.YtjjbmbjmdgoofaaGreatDoorProg
import Derived.Test.YtjjbmbjmdgoofaaGreatDoorG01
import Derived.Test.YtjjbmbjmdgoofaaGreatDoorG20
import Derived.WalkLawsBesides
import Derived.Deep.QuietTactic
import Derived.BigQuiet
import Derived.Deep.Light
set_option linter.unusedVariables false
set_option linter.unusedSimpArgs false
namespace Go.Proofs.YtjjbmbjmdgoofaaGreatDoor
open Go.RowKit Go.Deep
structure Plc where
  id : Int
  score : Int
def cellQ (p : Plc) : List Value := [.int .i64 p.id, .int .i64 p.score]
def cellsQ (l : List Plc) : List Value := l.flatMap cellQ
def plcA (p : Plc) : Value := .agg #[.int .i64 p.id, .int .i64 p.score]
def betterL (a b : Plc) : Bool := if a.score = b.score then decide (a.id < b.id) else decide (b.score < a.score)
def withL (l : List Plc) (p : Plc) : List Plc := l.takeWhile (fun a => betterL a p) ++ p :: l.dropWhile (fun a => betterL a p)
theorem cellsQ_append (a b : List Plc) : cellsQ (a ++ b) = cellsQ a ++ cellsQ b := by simp [cellsQ, List.flatMap_append]
theorem withL_length (l : List Plc) (p : Plc) : (withL l p).length = l.length + 1 := by
  have h := congrArg List.length (List.takeWhile_append_dropWhile (p := fun a => betterL a p) (l := l))
  unfold withL
  simp only [List.length_append, List.length_cons] at *
  omega
theorem take_while_at {p : Plc → Bool} : ∀ (l : List Plc) (i : Nat) (hi : i ≤ l.length), (∀ j (hj : j < i), p (l[j]'(by omega)) = true) → (∀ h : i < l.length, p l[i] = false) → l.takeWhile p = l.take i ∧ l.dropWhile p = l.drop i
  | [], i, hi, _, _ => by
    have : i = 0 := by simpa using hi
    subst this
    exact ⟨rfl, rfl⟩
  | a :: r, 0, _, _, h2 => by
    have := h2 (by simp)
    simp only [List.getElem_cons_zero] at this
    simp [List.takeWhile, List.dropWhile, this]
  | a :: r, i + 1, hi, h1, h2 => by
    have h0 := h1 0 (by omega)
    simp only [List.getElem_cons_zero] at h0
    obtain ⟨e1, e2⟩ := take_while_at r i (by simpa using hi) (fun j hj => by have := h1 (j + 1) (by omega); simpa using this) (fun h => by have := h2 (by simp; omega); simpa using this)
    simp [List.takeWhile, List.dropWhile, h0, e1, e2]
set_option maxHeartbeats 1000000 in
theorem better_any (a b : Plc) (w : World) :
    Calls Tryz.prog 99 #[plcA a, plcA b] w fun e w' => e = .returned (.bool (betterL a b)) ∧ Below w.heap.size w w' := by
  unfold plcA
  by_cases h : a.score = b.score
  · have HB : Hid (betterL a b = decide (a.id < b.id)) := by rw [Hid, betterL, if_pos h]
    have h1 : (a.score != b.score) = false := by simp [h]
    clear h
    go_enter Tryz.func99, Tryz.ntmps99
    go_wp2
    go_ret
    exact ⟨by rw [HB.out]; rfl, two_below w _ _⟩
  · have HB : Hid (betterL a b = decide (b.score < a.score)) := by rw [Hid, betterL, if_neg h]
    have h1 : (a.score != b.score) = true := by simp [h]
    clear h
    go_enter Tryz.func99, Tryz.ntmps99
    go_wp2
    go_ret
    exact ⟨by rw [HB.out]; rfl, two_below w _ _⟩
theorem Tryz.infoPlc : (Tryz.prog.info? 88).map (fun i => (i.zero, i.size, i.bytes)) = some (some (.agg #[.int .i64 0, .int .i64 0]), 2, 16) := by kernel_rfl
theorem one_plc (p : Plc) : ∀ u ∈ [Value.int .i64 p.id, .int .i64 p.score], u.oneCell' = true := by
  intro u hu
  simp at hu
  rcases hu with rfl | rfl <;> rfl
theorem cell_two_at (w : World) (x y : Value) (e : TypeId) (b : Nat) (hb : b = w.heap.size) : ∀ j v, [x, y][j]? = some v → (w.alloc (.cells #[x, y] e)).cell? ((⟨b, 0, none⟩ : Addr).add j) = some v := by
  subst hb
  intro j v hj
  have := (Blk.new w #[x, y] e).cell j
  rw [show (⟨w.heap.size, 0, none⟩ : Addr).add j = ⟨w.heap.size, j, none⟩ by unfold Addr.add; split <;> simp_all, this]
  simpa using hj
structure WSt (w wr : World) (B : Nat) (vl v : Value) (l acc : List Plc) : Prop where
  own : wr.ownsRow B 88 2 v acc.length (cellsQ acc)
  rd : Reads wr vl l.length (cellsQ l)
  hB : w.heap.size ≤ B
  bl : Below w.heap.size w wr
theorem WSt.below {w wr w' : World} {B : Nat} {vl v : Value} {l acc : List Plc} (h : WSt w wr B vl v l acc) (hb : Below wr.heap.size wr w') : WSt w w' B vl v l acc := ⟨own_below h.own hb, h.rd.below hb, h.hB, h.bl.trans (hb.mono h.bl.size)⟩
theorem reads_far {w w' : World} {B : Nat} {v : Value} {n : Nat} {xs : List Value} (h : Reads w v n xs) (hb : Below B w w') (hv : ∀ k, v.ownBlock = some k → k < B) : Reads w' v n xs := by
  rcases h with h | ⟨g, o, cap, rfl, hn, hlt, hc⟩
  · exact .inl h
  · have := hv g rfl
    exact .inr ⟨g, o, cap, rfl, hn, Nat.lt_of_lt_of_le hlt hb.size, fun j u hu => (hb.cell (p := ⟨g, o + j, none⟩) this).trans (hc j u hu)⟩
theorem WSt.snoc {w wr w2 : World} {B : Nat} {vl v v' : Value} {l acc : List Plc} {p : Plc} {o : Obj} (h : WSt w wr B vl v l acc) (hvl : ∀ k, vl.ownBlock = some k → k < w.heap.size)
    (hown2 : w2.ownsRow B 88 2 v' (acc.length + 1) (cellsQ acc ++ [.int .i64 p.id, .int .i64 p.score])) (hg : (wr.alloc o).grownBy w2 v.ownBlock) : WSt w w2 B vl v' l (acc ++ [p]) := by
  have hs1 := h.bl.size
  have hs2 := h.hB
  have hb : Below w.heap.size wr w2 := ((Below.refl w.heap.size wr).alloc (by omega) o).grown hg (by simp; omega) (fun k hk => by have := (h.own.lt k hk).1; omega)
  refine ⟨?_, reads_far h.rd hb hvl, h.hB, h.bl.trans hb⟩
  have e : cellsQ (acc ++ [p]) = cellsQ acc ++ [.int .i64 p.id, .int .i64 p.score] := by rw [cellsQ_append]; rfl
  rw [e]
  simpa using hown2
theorem reads_own {w : World} {v : Value} {n : Nat} {xs : List Value} (h : Reads w v n xs) : ∀ k, v.ownBlock = some k → k < w.heap.size := by
  rcases h with ⟨rfl, _⟩ | ⟨g, o, cap, rfl, _, hlt, _⟩
  · intro k hk; cases hk
  · intro k hk; cases hk; exact hlt
theorem plc_cells {w : World} {v : Value} {l : List Plc} (h : Reads w v l.length (cellsQ l)) {i : Nat} (hi : i < l.length) : ∃ g o cap, v = .slice (some ⟨g, o, none⟩) l.length cap ∧ l.length ≤ cap ∧ g < w.heap.size ∧ w.cell? ⟨g, o + i * 2, none⟩ = some (.int .i64 l[i].id) ∧ w.cell? ⟨g, o + i * 2 + 1, none⟩ = some (.int .i64 l[i].score) := by
  obtain ⟨g, o, cap, hv, hcap, hg, hc⟩ := h.pos (by omega)
  have f := fun j (hj : j < 2) u (hu : (cellQ l[i])[j]? = some u) => hc (i * 2 + j) u ((flat_get cellQ 2 (fun _ => rfl) l i hi j hj).trans hu)
  refine ⟨g, o, cap, hv, hcap, hg, f 0 (by omega) _ rfl, ?_⟩
  rw [Nat.add_assoc]; exact f 1 (by omega) _ rfl
theorem own_nilQ (w : World) (B : Nat) (hB : B ≤ w.heap.size) : (w.alloc (.cells #[] 88)).ownsRow B 88 2 (.slice (some ⟨w.heap.size, 0, none⟩) 0 0) 0 [] := World.ownsRow_made w #[] 0 hB (by unfold maxLen; omega) rfl
set_option maxHeartbeats 2000000 in
set_option maxRecDepth 100000 in
theorem rfirst_any (l : List Plc) (hl : l.length ≤ 1000) (k : Int) (hk : In64 k) (vl : Value) (w : World) (h : Reads w vl l.length (cellsQ l)) :
    Calls Tryz.prog 68 #[vl, .int .i64 k] w fun e w' => Below w.heap.size w w' ∧ ∃ v', e = .returned v' ∧ w'.ownsRow w.heap.size 88 2 v' (l.take k.toNat).length (cellsQ (l.take k.toNat)) := by
  obtain ⟨i0, hi0, hz0, hz1, hz2⟩ := info_parts Tryz.infoPlc
  have HV := Hid.mk2 (reads_own h)
  obtain ⟨a, c, rfl⟩ := h.shape
  obtain ⟨lk, hlk⟩ : ∃ lk, l.take k.toNat = lk := ⟨_, rfl⟩
  rw [hlk]
  have HLK := Hid.mk2 hlk
  clear hlk
  have HM : Hid (WSt w (w.alloc (.cells #[] 88)) w.heap.size (.slice a l.length c) (.slice (some ⟨w.heap.size, 0, none⟩) 0 0) l (l.take 0)) := ⟨own_nilQ w _ (Nat.le_refl _), h.alloc _, Nat.le_refl _, box3 w _⟩
  clear h
  go_enter Tryz.func68, Tryz.ntmps68
  go_wp2
  go_loopw [5, 6] (fun v vi wr => ∃ i : Nat, i ≤ l.length ∧ i ≤ k.toNat ∧ vi = .int .i64 i ∧ WSt w wr w.heap.size (.slice a l.length c) v l (l.take i)) (fun _ i _ => 1000 - (intOf i).toNat)
  case atStart => exact ⟨0, Nat.zero_le _, Nat.zero_le _, rfl, HM.out⟩
  case round =>
    obtain ⟨i, hi, hik, rfl, hm⟩ := hrel
    clear HM
    have HQ := Hid.mk2 hm
    by_cases hlt : i < l.length
    · by_cases hlk : (i : Int) < k
      · obtain ⟨g, o, cap, hcut, hcap, hg, d0, d1⟩ := plc_cells hm.rd hlt
        cases hcut
        have HTK : Hid (l.take (i + 1) = l.take i ++ [l[i]]) := List.take_succ_eq_append_getElem hlt
        obtain ⟨p, hp⟩ : ∃ p, l[i] = p := ⟨_, rfl⟩
        rw [hp] at d0 d1 HTK
        have hll : (l.take i).length ≤ 1000 := by simp; omega
        have hws := hm.bl.size
        clear hm hp
        have e1 : decide ((i : Int) < k) = true := decide_eq_true hlk
        go_wp2_with (at_builtin; refine wpList_append_own _ rfl (.tmp 19) (.tmp 24) 50 rfl w.heap.size 88 i0 (.agg #[.int .i64 0, .int .i64 0]) 2 16 Tryz.underlying50 hi0 hz0 hz1 hz2 rfl (by decide) _ _ _ rfl (HQ.out.own.alloc _) ⟨wr.heap.size, 0, none⟩ 1 1 [.int .i64 p.id, .int .i64 p.score] rfl rfl (cell_two_at _ _ _ _ _ rfl) (one_plc p) (by unfold maxLen; omega) (by omega) (by simp; omega) ?_; intro v' w4 hown2 hgrow2 _; have HQ2 := Hid.mk2 (HQ.out.snoc (p := p) HV.out hown2 hgrow2); clear hown2 hgrow2)
        go_roundw
        case rel => exact ⟨i + 1, by omega, by omega, by go_num, by rw [HTK.out]; exact HQ2.out⟩
        case measure => simp [intOf]; omega
      · have e1 : decide ((i : Int) < k) = false := decide_eq_false hlk
        have HTK : Hid (lk = l.take i) := by rw [Hid, ← HLK.out, show k.toNat = i by omega]
        clear hm
        go_wp2
        go_ret
        exact ⟨HQ.out.bl, _, rfl, by rw [HTK.out]; exact HQ.out.own⟩
    · have HTK : Hid (lk = l.take i) := by rw [Hid, ← HLK.out, List.take_of_length_le (by omega), List.take_of_length_le (by omega)]
      clear hm
      go_wp2
      go_ret
      exact ⟨HQ.out.bl, _, rfl, by rw [HTK.out]; exact HQ.out.own⟩
end Go.Proofs.YtjjbmbjmdgoofaaGreatDoor
namespace Go.Proofs.YtjjbmbjmdgoofaaGreatDoor
open Go.RowKit Go.Deep
structure VSt (w wr : World) (vl v : Value) (l acc : List Plc) (p : Plc) : Prop where
  s : WSt w wr (w.heap.size + 1) vl v l acc
  bx : Blk wr w.heap.size #[.int .i64 p.id, .int .i64 p.score] 88
theorem VSt.below {w wr w' : World} {vl v : Value} {l acc : List Plc} {p : Plc} (h : VSt w wr vl v l acc p) (hb : Below wr.heap.size wr w') : VSt w w' vl v l acc p := ⟨h.s.below hb, h.bx.below hb h.bx.lt⟩
theorem VSt.dr {w wr : World} {vl v : Value} {l acc : List Plc} {p : Plc} (h : VSt w wr vl v l acc p) : VSt w wr.drew vl v l acc p := h.below (below_drewN (Below.refl _ wr) 1)
theorem VSt.snoc {w wr w2 : World} {vl v v' : Value} {l acc : List Plc} {p q : Plc} {o : Obj} (h : VSt w wr vl v l acc p) (hvl : ∀ k, vl.ownBlock = some k → k < w.heap.size)
    (hown2 : w2.ownsRow (w.heap.size + 1) 88 2 v' (acc.length + 1) (cellsQ acc ++ [.int .i64 q.id, .int .i64 q.score])) (hg : (wr.alloc o).grownBy w2 v.ownBlock) : VSt w w2 vl v' l (acc ++ [q]) p := by
  refine ⟨h.s.snoc hvl hown2 hg, ?_⟩
  have hne : v.ownBlock ≠ some w.heap.size := fun e => by have := (h.s.own.lt _ e).1; omega
  have hb := h.bx.alloc o
  have := hg.block w.heap.size hb.lt (fun e => hne e.symm)
  unfold Blk
  rw [this]
  exact hb
set_option maxHeartbeats 4000000 in
set_option maxRecDepth 100000 in
theorem rwith_any (l : List Plc) (hl : l.length ≤ 1000) (p : Plc) (vl : Value) (w : World) (h : Reads w vl l.length (cellsQ l)) :
    Calls Tryz.prog 67 #[vl, plcA p] w fun e w' => Below w.heap.size w w' ∧ ∃ v', e = .returned v' ∧ w'.ownsRow w.heap.size 88 2 v' (withL l p).length (cellsQ (withL l p)) := by
  obtain ⟨i0, hi0, hz0, hz1, hz2⟩ := info_parts Tryz.infoPlc
  have HV := Hid.mk2 (reads_own h)
  obtain ⟨a, c, rfl⟩ := h.shape
  have HM : Hid (VSt w ((w.alloc (.cells #[.int .i64 p.id, .int .i64 p.score] 88)).alloc (.cells #[] 88)) (.slice a l.length c) (.slice (some ⟨w.heap.size + 1, 0, none⟩) 0 0) l (l.take 0) p) := by
    have e := own_nilQ (w.alloc (.cells #[.int .i64 p.id, .int .i64 p.score] 88)) (w.heap.size + 1) (by simp)
    have e2 : (w.alloc (.cells #[.int .i64 p.id, .int .i64 p.score] 88)).heap.size = w.heap.size + 1 := by simp
    rw [e2] at e
    exact ⟨⟨e, (h.alloc _).alloc _, by omega, two_below w _ _⟩, (Blk.new w _ _).alloc _⟩
  clear h
  unfold plcA
  go_enter Tryz.func67, Tryz.ntmps67
  go_wp2
  go_loopw [5, 6] (fun v vi wr => ∃ i : Nat, ∃ hi : i ≤ l.length, vi = .int .i64 i ∧ (∀ j (hj : j < i), betterL (l[j]'(by omega)) p = true) ∧ VSt w wr (.slice a l.length c) v l (l.take i) p) (fun _ i _ => 2000 - (intOf i).toNat)
  case atStart => exact ⟨0, Nat.zero_le _, rfl, fun j hj => by omega, HM.out⟩
  case round =>
    obtain ⟨i, hi, rfl, hbt, hm⟩ := hrel
    clear HM
    have HQ := Hid.mk2 hm
    have HBT := Hid.mk2 hbt
    have hws := hm.s.bl.size
    have b0 := hm.bx.cell 0
    have b1 := hm.bx.cell 1
    have hbl := hm.bx.lt
    simp only [List.getElem?_toArray, List.getElem?_cons_zero, List.getElem?_cons_succ] at b0 b1
    clear hbt
    go_upto_region 3 with fail
    go_cut [19] from 8 to 28 (fun s19 wx => s19 = .bool (decide (i < l.length) && (if h : i < l.length then betterL l[i] p else false)) ∧ VSt w wx (.slice a l.length c) u5 l (l.take i) p)
    case first =>
      by_cases hlt : i < l.length
      · obtain ⟨g, o, cap, hcut, hcap, hg, d0, d1⟩ := plc_cells hm.s.rd hlt
        cases hcut
        have HEQ : Hid ((decide (i < l.length) && (if h : i < l.length then betterL l[i] p else false)) = betterL l[i] p) := by simp [Hid, hlt]
        obtain ⟨q, hq⟩ : ∃ q, l[i] = q := ⟨_, rfl⟩
        rw [hq] at d0 d1 HEQ
        have hd : decide ((i : Int) < (l.length : Int)) = true := decide_eq_true (by omega)
        clear hm hq
        go_region_with (go_at_call 99; refine (better_any q p _).mono ?_; rintro e w3 ⟨rfl, hb3⟩; replace HQ := Hid.mk2 (by first | with_reducible exact HQ.out.below hb3 | with_reducible exact HQ.out.dr.below hb3); clear hb3)
        all_goals
          go_wp2_with fail
          go_meet
          case rel => exact ⟨by rw [HEQ.out], HQ.out⟩
      · have HEQ : Hid ((decide (i < l.length) && (if h : i < l.length then betterL l[i] p else false)) = false) := by simp [Hid, hlt]
        have hd : decide ((i : Int) < (l.length : Int)) = false := decide_eq_false (by omega)
        clear hm
        go_region
        all_goals
          go_wp2_with fail
          go_meet
          case rel => exact ⟨by rw [HEQ.out], HQ.out.dr⟩
    case rest =>
      obtain ⟨rfl, hm2⟩ := hcut
      clear HQ b0 b1 hbl hws hm
      have HQ := Hid.mk2 hm2
      have hws := hm2.s.bl.size
      have b0 := hm2.bx.cell 0
      have b1 := hm2.bx.cell 1
      have hbl := hm2.bx.lt
      simp only [List.getElem?_toArray, List.getElem?_cons_zero, List.getElem?_cons_succ] at b0 b1
      by_cases hb : (decide (i < l.length) && (if h : i < l.length then betterL l[i] p else false)) = true
      · have hlt : i < l.length := by
          simp only [Bool.and_eq_true, decide_eq_true_eq] at hb
          exact hb.1
        have hbi : betterL l[i] p = true := by rw [decide_eq_true hlt, Bool.true_and, dif_pos hlt] at hb; exact hb
        rw [hb]
        obtain ⟨g, o, cap, hcut, hcap, hg, d0, d1⟩ := plc_cells hm2.s.rd hlt
        cases hcut
        have HTK : Hid (l.take (i + 1) = l.take i ++ [l[i]]) := List.take_succ_eq_append_getElem hlt
        have HB2 : Hid (∀ j (hj : j < i + 1), betterL (l[j]'(by omega)) p = true) := fun j hj => by
          by_cases hji : j < i
          · exact HBT.out j hji
          · have : j = i := by omega
            subst this
            exact hbi
        obtain ⟨q, hq⟩ : ∃ q, l[i] = q := ⟨_, rfl⟩
        rw [hq] at d0 d1 HTK
        have hll : (l.take i).length ≤ 1000 := by simp; omega
        clear hm2 hq hb hbi
        go_wp2_with (at_builtin; refine wpList_append_own _ rfl (.tmp 20) (.tmp 25) 50 rfl (w.heap.size + 1) 88 i0 (.agg #[.int .i64 0, .int .i64 0]) 2 16 Tryz.underlying50 hi0 hz0 hz1 hz2 rfl (by decide) _ _ _ rfl (HQ.out.s.own.alloc _) ⟨wc.heap.size, 0, none⟩ 1 1 [.int .i64 q.id, .int .i64 q.score] rfl rfl (cell_two_at _ _ _ _ _ rfl) (one_plc q) (by unfold maxLen; omega) (by omega) (by simp; omega) ?_; intro v' w4 hown2 hgrow2 _; have HQ2 := Hid.mk2 (HQ.out.snoc (q := q) HV.out hown2 hgrow2); clear hown2 hgrow2)
        go_roundw
        case rel => exact ⟨i + 1, by omega, by go_num, HB2.out, by rw [HTK.out]; exact HQ2.out⟩
        case measure => simp [intOf]; omega
      · have hbf : (decide (i < l.length) && (if h : i < l.length then betterL l[i] p else false)) = false := Bool.eq_false_iff.2 hb
        rw [hbf]
        have hno : ∀ h : i < l.length, betterL l[i] p = false := fun h => by rw [decide_eq_true h, Bool.true_and, dif_pos h] at hbf; exact hbf
        obtain ⟨et, ed⟩ := take_while_at (p := fun a => betterL a p) l i hi HBT.out hno
        have HW : Hid (withL l p = (l.take i ++ [p]) ++ l.drop i) := by rw [Hid, withL, et, ed]; simp
        have hll : (l.take i).length ≤ 1000 := by simp; omega
        clear hm2 hb hbf hno et ed HBT
        go_wp2_with (at_builtin; refine wpList_append_own _ rfl (.tmp 29) (.tmp 31) 50 rfl (w.heap.size + 1) 88 i0 (.agg #[.int .i64 0, .int .i64 0]) 2 16 Tryz.underlying50 hi0 hz0 hz1 hz2 rfl (by decide) _ _ _ rfl (HQ.out.s.own.alloc _) ⟨wc.heap.size, 0, none⟩ 1 1 [.int .i64 p.id, .int .i64 p.score] rfl rfl (cell_two_at _ _ _ _ _ rfl) (one_plc p) (by unfold maxLen; omega) (by omega) (by simp; omega) ?_; intro v' w4 hown2 hgrow2 _; have HQ2 := Hid.mk2 (HQ.out.snoc (q := p) HV.out hown2 hgrow2); clear hown2 hgrow2)
        go_loopw [5, 6] (fun v vi wr => ∃ m : Nat, i ≤ m ∧ m ≤ l.length ∧ vi = .int .i64 m ∧ VSt w wr (.slice a l.length c) v l (l.take i ++ [p] ++ (l.drop i).take (m - i)) p) (fun _ i _ => 2000 - (intOf i).toNat)
        case atStart => exact ⟨i, Nat.le_refl _, hi, rfl, by rw [Nat.sub_self, List.take_zero, List.append_nil]; exact HQ2.out⟩
        case round =>
          obtain ⟨m, him, hml, rfl, hm⟩ := hrel
          clear HQ HQ2 b0 b1 hbl hws
          have HQ := Hid.mk2 hm
          have hws := hm.s.bl.size
          by_cases hlt : m < l.length
          · obtain ⟨g, o, cap, hcut, hcap, hg, d0, d1⟩ := plc_cells hm.s.rd hlt
            cases hcut
            have HTK : Hid (l.take i ++ [p] ++ (l.drop i).take (m + 1 - i) = (l.take i ++ [p] ++ (l.drop i).take (m - i)) ++ [l[m]]) := by
              have hd : m - i < (l.drop i).length := by simp; omega
              rw [Hid, show m + 1 - i = (m - i) + 1 by omega, List.take_succ_eq_append_getElem hd]
              simp [show i + (m - i) = m by omega]
            obtain ⟨q, hq⟩ : ∃ q, l[m] = q := ⟨_, rfl⟩
            rw [hq] at d0 d1 HTK
            have hll2 : (l.take i ++ [p] ++ (l.drop i).take (m - i)).length ≤ 2001 := by simp; omega
            obtain ⟨acc, hacc⟩ : ∃ acc, l.take i ++ [p] ++ (l.drop i).take (m - i) = acc := ⟨_, rfl⟩
            rw [hacc] at HTK HQ hll2
            clear hm hq hacc
            go_wp2_with (at_builtin; refine wpList_append_own _ rfl (.tmp 37) (.tmp 42) 50 rfl (w.heap.size + 1) 88 i0 (.agg #[.int .i64 0, .int .i64 0]) 2 16 Tryz.underlying50 hi0 hz0 hz1 hz2 rfl (by decide) _ _ _ rfl (HQ.out.s.own.alloc _) ⟨wr.heap.size, 0, none⟩ 1 1 [.int .i64 q.id, .int .i64 q.score] rfl rfl (cell_two_at _ _ _ _ _ rfl) (one_plc q) (by unfold maxLen; omega) (by omega) (by simp; omega) ?_; intro v' w5 hown2 hgrow2 _; have HQ3 := Hid.mk2 (HQ.out.snoc (q := q) HV.out hown2 hgrow2); clear hown2 hgrow2)
            go_roundw
            case rel => exact ⟨m + 1, by omega, by omega, by go_num, by rw [HTK.out]; exact HQ3.out⟩
            case measure => simp [intOf]; omega
          · have hml' : m = l.length := by omega
            have HFI : Hid (withL l p = l.take i ++ [p] ++ (l.drop i).take (m - i)) := by rw [Hid, HW.out, List.take_of_length_le (l := l.drop i) (by simp; omega)]
            clear hm
            go_wp2
            go_ret
            exact ⟨HQ.out.s.bl, _, rfl, by rw [HFI.out]; exact own_low HQ.out.s.own (by omega)⟩
end Go.Proofs.YtjjbmbjmdgoofaaGreatDoor
namespace Go.Proofs.YtjjbmbjmdgoofaaGreatDoor
open Go.RowKit
theorem lowU_step (s : ByteArray) (p j n : Nat) (hj : 0 < j) (hn : j ≤ n) : lowU s (p + (j - 1)) (n - (j - 1)) = bt s (p + (j - 1)) + 256 * lowU s (p + j) (n - j) := by
  have e : n - (j - 1) = (n - j) + 1 := by omega
  rw [e]
  simp only [lowU]
  rw [show p + (j - 1) + 1 = p + j by omega]
end Go.Proofs.YtjjbmbjmdgoofaaGreatDoor
