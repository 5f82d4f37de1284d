/-
  The document's parts, called on tokens that can be read.
-/
import Derived.Test.YtkbbdfeobcklhaaGreatDoorX43
import Derived.Test.YtkbbdfeobcklhaaGreatDoorX03
set_option linter.unusedVariables false
set_option linter.unusedSimpArgs false
namespace Go.Proofs.YtkbbdfeobcklhaaGreatDoor
open Go.RowKit

theorem partFold_drop (ns : List Txt) (ks : List Nat) (t : Txt) (j k : Nat) (h : j < ns.length) (h2 : j < ks.length) :
    partFold ((ns.zip ks).drop j) k t = partFold ((ns.zip ks).drop (j + 1)) (if ns[j] == t then ks[j] else k) t := by
  rw [List.drop_eq_getElem_cons (by simp; omega)]
  simp [partFold]

set_option maxHeartbeats 1000000 in
set_option maxRecDepth 10000 in
theorem parts_none (l : List RTok) (hl4 : l.length ≤ 400) (a : Option Addr) (c0 : Nat) (kv v : Value) (w : World) (hv : Reads w v l.length (cellsR l)) :
    Calls Tryz.prog 72 #[.slice a 0 c0, kv, v] w fun e w' => e = .returned (.int .i64 (partsGo [] 0 l)) ∧ w' = w := by
  rcases hv with ⟨rfl, hn, _⟩ | ⟨g, o, cap, rfl, _, hlt, hc⟩
  · have : l = [] := List.eq_nil_of_length_eq_zero hn
    subst this
    go_enter Tryz.func72, Tryz.ntmps72
    go_wp2
    refine wp_loop_rounds 1 ?_; rw [rounds_succ]
    go_wp2
    go_ret
    exact ⟨rfl, rfl⟩
  go_enter Tryz.func72, Tryz.ntmps72
  go_wp2
  go_loop [7, 8] (fun sn si => ∃ (i n : Nat), i ≤ l.length ∧ si = .int .i64 i ∧ sn = .int .i64 n ∧ n ≤ 150 ∧ partsGo [] 0 l = partsGo [] n (l.drop i)) (fun _ i => l.length - (intOf i).toNat)
  case atStart => exact ⟨0, 0, Nat.zero_le _, rfl, rfl, by omega, rfl⟩
  case round =>
    obtain ⟨i, n, hil, rfl, rfl, hn150, hgo⟩ := hrel
    by_cases hi : i < l.length
    · have cx : w.cell? ⟨g, o + i * 2, none⟩ = some (.string (bsOf l[i].text)) := hc _ _ (cellsR_get l i hi).1
      have HG : Hid (partsGo [] 0 l = partsGo [] n (l[i] :: l.drop (i + 1))) := (by rw [hgo, List.drop_eq_getElem_cons hi] : _ = _)
      have HC : Hid (∀ j u, (cellsR l)[j]? = some u → w.cell? ⟨g, o + j, none⟩ = some u) := hc
      clear hgo hc
      obtain ⟨c, hcd⟩ : ∃ c, c = bsOf l[i].text := ⟨_, rfl⟩
      rw [← hcd] at cx
      have HT : Hid (l[i].text = c.toList) := (by rw [hcd, bsOf_toList] : l[i].text = c.toList)
      clear hcd
      obtain ⟨k0, hk0⟩ : ∃ k0 : Nat, k0 = if (c.toList == [40]) || (c.toList == [41]) then 0 else 1 := ⟨_, rfl⟩
      have HP1 : Hid (partOne [] c.toList = partFold [] k0 c.toList) := (by unfold partOne; rw [hk0]; rfl : _ = _)
      have hk01 : k0 ≤ 1 := by rw [hk0]; split <;> omega
      have hbr : ((c.toList == [40]) = true ∧ k0 = 0) ∨ ((c.toList == [40]) = false ∧ (c.toList == [41]) = true ∧ k0 = 0) ∨ ((c.toList == [40]) = false ∧ (c.toList == [41]) = false ∧ k0 = 1) := by
        cases h1 : (c.toList == [40]) <;> cases h2 : (c.toList == [41]) <;> simp [hk0, h1, h2]
      clear hk0
      rcases hbr with ⟨h1, rfl⟩ | ⟨h1, h2, rfl⟩ | ⟨h1, h2, rfl⟩
      · go_wp2
        go_loop [10, 11] (fun sk sj => sj = .int .i64 0 ∧ sk = .int .i64 0) (fun _ _ => 0)
        case atStart => exact ⟨rfl, rfl⟩
        case round =>
          obtain ⟨rfl, rfl⟩ := hrel
          go_wp2
          go_round
          case rel => exact ⟨i + 1, n, by omega, by go_num, by go_num, by omega, by rw [HG.out, partsGo, HT.out, HP1.out]; exact if_neg (by simp [partFold]; omega)⟩
          case measure => simp [intOf]; omega
      · go_wp2
        go_loop [10, 11] (fun sk sj => sj = .int .i64 0 ∧ sk = .int .i64 0) (fun _ _ => 0)
        case atStart => exact ⟨rfl, rfl⟩
        case round =>
          obtain ⟨rfl, rfl⟩ := hrel
          go_wp2
          go_round
          case rel => exact ⟨i + 1, n, by omega, by go_num, by go_num, by omega, by rw [HG.out, partsGo, HT.out, HP1.out]; exact if_neg (by simp [partFold]; omega)⟩
          case measure => simp [intOf]; omega
      · by_cases hbig : n + 1 > 150
        · go_wp2
          go_loop [10, 11] (fun sk sj => sj = .int .i64 0 ∧ sk = .int .i64 1) (fun _ _ => 0)
          case atStart => exact ⟨rfl, rfl⟩
          case round =>
            obtain ⟨rfl, rfl⟩ := hrel
            go_wp2
            go_ret
            exact ⟨ret_int (by rw [HG.out, partsGo, HT.out, HP1.out]; rw [if_pos (by simp [partFold]; omega)]; rfl), rfl⟩
        · go_wp2
          go_loop [10, 11] (fun sk sj => sj = .int .i64 0 ∧ sk = .int .i64 1) (fun _ _ => 0)
          case atStart => exact ⟨rfl, rfl⟩
          case round =>
            obtain ⟨rfl, rfl⟩ := hrel
            go_wp2
            go_round
            case rel => exact ⟨i + 1, n + 1, by omega, by go_num, by go_num, by omega, by rw [HG.out, partsGo, HT.out, HP1.out]; exact if_neg (by simp [partFold]; omega)⟩
            case measure => simp [intOf]; omega
    · go_wp2
      go_ret
      exact ⟨ret_int (by rw [List.drop_eq_nil_of_le (by omega)]; rfl), rfl⟩
set_option maxHeartbeats 1000000 in
set_option maxRecDepth 10000 in
theorem parts_ref (ns : List Txt) (ks : List Nat) (hk : ks.length = ns.length) (hks : ∀ k ∈ ks, k ≤ 151) (hn4 : ns.length ≤ 400) (l : List RTok) (hl4 : l.length ≤ 400) (nv kv v : Value) (w : World)
    (hnv : Reads w nv ns.length (cellsTr ns)) (hkv : Reads w kv ks.length (cellsI ks)) (hv : Reads w v l.length (cellsR l)) :
    Calls Tryz.prog 72 #[nv, kv, v] w fun e w' => e = .returned (.int .i64 (partsGo (ns.zip ks) 0 l)) ∧ w' = w := by
  by_cases hns : ns.length = 0
  · have hns' : ns = [] := List.eq_nil_of_length_eq_zero hns
    subst hns'
    have hks' : ks = [] := List.eq_nil_of_length_eq_zero (by rw [hk]; rfl)
    subst hks'
    rcases hnv with ⟨rfl, _, _⟩ | ⟨g2, o2, cap2, rfl, _, _, _⟩
    · exact parts_none l hl4 none 0 kv v w hv
    · exact parts_none l hl4 (some ⟨g2, o2, none⟩) cap2 kv v w hv
  have hns0 : 0 < ns.length := by omega
  clear hns
  rcases hv with ⟨rfl, hn, _⟩ | ⟨g, o, cap, rfl, _, hlt, hc⟩
  · have : l = [] := List.eq_nil_of_length_eq_zero hn
    subst this
    go_enter Tryz.func72, Tryz.ntmps72
    go_wp2
    refine wp_loop_rounds 1 ?_; rw [rounds_succ]
    go_wp2
    go_ret
    exact ⟨rfl, rfl⟩
  have HKS : Hid (ks.length = ns.length) := hk
  have HPS : Hid (∀ t, partOne (ns.zip ks) t ≤ 151) := partOne_le _ (fun p hp => hks _ (List.of_mem_zip hp).2)
  have HKL : Hid (∀ k ∈ ks, k ≤ 151) := hks
  rw [hk] at hkv
  clear hk hks
  go_enter Tryz.func72, Tryz.ntmps72
  go_wp2
  go_loop [7, 8] (fun sn si => ∃ (i n : Nat), i ≤ l.length ∧ si = .int .i64 i ∧ sn = .int .i64 n ∧ n ≤ 150 ∧ partsGo (ns.zip ks) 0 l = partsGo (ns.zip ks) n (l.drop i)) (fun _ i => l.length - (intOf i).toNat)
  case atStart => exact ⟨0, 0, Nat.zero_le _, rfl, rfl, by omega, rfl⟩
  case round =>
    obtain ⟨i, n, hil, rfl, rfl, hn150, hgo⟩ := hrel
    by_cases hi : i < l.length
    · have cx : w.cell? ⟨g, o + i * 2, none⟩ = some (.string (bsOf l[i].text)) := hc _ _ (cellsR_get l i hi).1
      have HG : Hid (partsGo (ns.zip ks) 0 l = partsGo (ns.zip ks) n (l[i] :: l.drop (i + 1))) := (by rw [hgo, List.drop_eq_getElem_cons hi] : _ = _)
      have HC : Hid (∀ j u, (cellsR l)[j]? = some u → w.cell? ⟨g, o + j, none⟩ = some u) := hc
      clear hgo hc
      obtain ⟨c, hcd⟩ : ∃ c, c = bsOf l[i].text := ⟨_, rfl⟩
      rw [← hcd] at cx
      have HT : Hid (l[i].text = c.toList) := (by rw [hcd, bsOf_toList] : l[i].text = c.toList)
      clear hcd
      obtain ⟨k0, hk0⟩ : ∃ k0 : Nat, k0 = if (c.toList == [40]) || (c.toList == [41]) then 0 else 1 := ⟨_, rfl⟩
      have HP1 : Hid (partOne (ns.zip ks) c.toList = partFold (ns.zip ks) k0 c.toList) := (by unfold partOne; rw [hk0]; rfl : _ = _)
      have hk01 : k0 ≤ 1 := by rw [hk0]; split <;> omega
      have hbr : ((c.toList == [40]) = true ∧ k0 = 0) ∨ ((c.toList == [40]) = false ∧ (c.toList == [41]) = true ∧ k0 = 0) ∨ ((c.toList == [40]) = false ∧ (c.toList == [41]) = false ∧ k0 = 1) := by
        cases h1 : (c.toList == [40]) <;> cases h2 : (c.toList == [41]) <;> simp [hk0, h1, h2]
      clear hk0
      obtain ⟨g2, o2, cap2, rfl, _, hlt2, hc2⟩ := hnv.pos hns0
      obtain ⟨g3, o3, cap3, rfl, _, hlt3, hc3⟩ := hkv.pos hns0
      have HC2 : Hid (∀ j u, (cellsTr ns)[j]? = some u → w.cell? ⟨g2, o2 + j, none⟩ = some u) := hc2
      have HC3 : Hid (∀ j u, (cellsI ks)[j]? = some u → w.cell? ⟨g3, o3 + j, none⟩ = some u) := hc3
      have hk0le : Hid (k0 ≤ 151) := (by omega : k0 ≤ 151)
      clear hc2 hc3
      rcases hbr with ⟨h1, rfl⟩ | ⟨h1, h2, rfl⟩ | ⟨h1, h2, rfl⟩
      all_goals
        go_wp2
        go_loop [10, 11] (fun sk sj => ∃ (j kk : Nat), j ≤ ns.length ∧ sj = .int .i64 j ∧ sk = .int .i64 kk ∧ kk ≤ 151 ∧ partOne (ns.zip ks) c.toList = partFold ((ns.zip ks).drop j) kk c.toList) (fun _ j => ns.length - (intOf j).toNat)
        case atStart => exact ⟨0, _, Nat.zero_le _, rfl, rfl, hk0le.out, HP1.out⟩
        case round =>
          obtain ⟨j, kk, hjl, rfl, rfl, hkk, hpf⟩ := hrel
          have HPF : Hid (partOne (ns.zip ks) c.toList = partFold ((ns.zip ks).drop j) kk c.toList) := hpf
          clear hpf
          by_cases hj : j < ns.length
          · have hj2 : j < ks.length := by rw [HKS.out]; exact hj
            have cn : w.cell? ⟨g2, o2 + j, none⟩ = some (.string (bsOf ns[j])) := HC2.out _ _ (by simp [cellsTr, hj])
            have ck : w.cell? ⟨g3, o3 + j, none⟩ = some (.int .i64 ks[j]) := HC3.out _ _ (by simp [cellsI, hj2])
            have hkj : ks[j] ≤ 151 := HKL.out _ (List.getElem_mem hj2)
            have HD : Hid (partOne (ns.zip ks) c.toList = partFold ((ns.zip ks).drop (j + 1)) (if ns[j] == c.toList then ks[j] else kk) c.toList) := (by rw [HPF.out, partFold_drop ns ks c.toList j kk hj hj2] : _ = _)
            obtain ⟨d, hd⟩ : ∃ d, d = bsOf ns[j] := ⟨_, rfl⟩
            rw [← hd] at cn
            have HDT : Hid (ns[j] = d.toList) := (by rw [hd, bsOf_toList] : ns[j] = d.toList)
            clear hd
            cases heq : (d.toList == c.toList)
            · go_wp2
              go_round
              case rel => exact ⟨j + 1, kk, by omega, by go_num, rfl, hkk, by rw [HD.out, HDT.out, heq]; simp⟩
              case measure => simp [intOf]; omega
            · go_wp2
              go_round
              case rel => exact ⟨j + 1, ks[j], by omega, by go_num, rfl, hkj, by rw [HD.out, HDT.out, heq]; simp⟩
              case measure => simp [intOf]; omega
          · have HKK : Hid (partOne (ns.zip ks) c.toList = kk) := (by rw [HPF.out, List.drop_eq_nil_of_le (by simp; omega)]; rfl : _ = _)
            by_cases hbig : n + kk > 150
            · go_wp2
              go_ret
              exact ⟨ret_int (by rw [HG.out, partsGo, HT.out, HKK.out, if_pos hbig]; rfl), rfl⟩
            · go_wp2
              go_round
              case rel => exact ⟨i + 1, n + kk, by omega, by go_num, by go_num, by omega, by rw [HG.out, partsGo, HT.out, HKK.out, if_neg hbig]⟩
              case measure => simp [intOf]; omega
    · go_wp2
      go_ret
      exact ⟨ret_int (by rw [List.drop_eq_nil_of_le (by omega)]; rfl), rfl⟩
end Go.Proofs.YtkbbdfeobcklhaaGreatDoor
