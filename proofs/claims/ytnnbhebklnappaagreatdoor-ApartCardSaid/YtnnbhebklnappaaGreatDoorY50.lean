/-
  Stores filled by a known policy; lists of places held against one another; copies of them.
  Kept: moves on the bins of a store, one after the other.
  Kept: the bins that are left, when each is removed that is empty: plain.
  Kept: whatever the bins and the moves are, it answers true.
-/
import Derived.Test.YtnnbhebklnappaaGreatDoorY46
import Derived.Test.YtnnbhebklnappaaGreatDoorY49
import Derived.Laws.CopyOwn
import Derived.Deep.DeepCutAuto
import Derived.Deep.RegionWith
import Derived.Deep.AppendLies
set_option linter.unusedVariables false
set_option linter.unusedSimpArgs false
namespace Go.Proofs.YtnnbhebklnappaaGreatDoor
open Go.RowKit Go.Deep

/-- 'score used;' -/
def suT : Txt := [115, 99, 111, 114, 101, 32, 117, 115, 101, 100, 59]
def suB : ByteArray := { data := #[115, 99, 111, 114, 101, 32, 117, 115, 101, 100, 59] }
theorem suB_list : suB.toList = suT := bsOf_toList suT
def suE : Tr := .leaf ⟨[117, 115, 101, 100], 6⟩
def suR : List RSt := [RSt.rule none ⟨[115, 99, 111, 114, 101], 0⟩ (some suE) ⟨[59], 10⟩]
theorem suE_wf : suE.wf := ⟨⟨rfl, rfl, rfl, rfl⟩, by decide, by decide, by decide, by decide, by decide⟩
theorem su_pol : PolicyOf suT [] suR := by
  refine ⟨by kernel_rfl, (fun s h => by cases h), fun s h => ?_, fun s h => ?_, fun t ht => ?_, by simp [suR], by decide⟩
  · simp only [suR, List.mem_singleton] at h; subst h; rfl
  · simp only [suR, List.nil_append, List.mem_singleton] at h
    subst h
    exact ⟨(fun k e he => by cases he), rfl, (fun e he => by cases he; exact suE_wf), rfl⟩
  · exact List.all_eq_true.1 (show (toksL ([] ++ suR)).all (fun t : RTok => mayT t.text) = true by kernel_rfl) t ht
def suN : List PNode := [⟨⟨[117, 115, 101, 100], 6⟩, 0, 0, 0⟩]
def suU : List PRule := [⟨false, noExp, true, ⟨6, 0, 1⟩⟩]
theorem su_known : KnownP suT suN [] suU := by
  refine ⟨⟨[], suR, su_pol, by kernel_rfl, by kernel_rfl, by kernel_rfl⟩, by kernel_rfl, Nat.le_of_ble_eq_true (by kernel_rfl), Nat.le_of_ble_eq_true (by kernel_rfl)⟩
def szI : ByteArray := bsN (imageC szN [] szU)
theorem szI_some : szI.toList.isEmpty = false := by kernel_rfl
theorem sz_scores {x : Itm} (hx : x.Ok) {y : Bn} (hy : y.Ok) : ScoresAt szI x (fun y => (szP x y).v) y := by
  intro wx hg
  have hz : attrN (3 : Nat) x y = y.zone := rfl
  have hyz := hy.2.1
  have hj : (joinN 6 7 y.zone).2 = 0 := by
    rw [join6, exact64]
    have : In64 (7 * y.zone) := by unfold In64; omega
    first | rw [if_pos this] | (unfold In64 at this; split <;> first | rfl | omega)
  have hf : (szP x y).flt = 0 := by
    unfold szP twoP leafI leafA
    simp only [ne_eq, not_true_eq_false, if_false]
    rw [hz]
    exact hj
  have hc : (szP x y).code = [0, 7, 0, 0, 0, 0, 0, 0, 0, 1, 3, 6] := rfl
  have hh : (szP x y).high = 2 := rfl
  have hst : (szP x y).steps = 3 := rfl
  refine scores_of hx hy (twoP_ok (leafI_ok (by decide)) (leafA_ok hx hy (by omega)) ⟨by omega, by omega⟩) hf ?_ ?_ ?_ ?_ (sz_img x y) wx hg
  · show ∀ z ∈ imgC (szP x y).high ((szP x y).code ++ [16]), z < 256
    rw [hc, hh]
    decide
  · show 1 ≤ (szP x y).code.length
    rw [hc]; decide
  · show (szP x y).code.length ≤ 3000
    rw [hc]; decide
  · show (szP x y).steps ≤ (szP x y).code.length
    rw [hst, hc]; decide
set_option maxHeartbeats 2000000 in
set_option maxRecDepth 100000 in
theorem filled_known (s : ByteArray) (hz : s.size ≤ maxLen) {N : List PNode} {ls : List PLet} {rs : List PRule} (hk : KnownP s.toList N ls rs) (l : List Bn) (v : Value) (w : World) (hg : GlobT w) (hp : GlobB w) (hs : Shelf l) (h12 : l.length ≤ 12) (h : Reads w v l.length (cellsB l)) :
    Calls Tryz.prog 12 #[v, .string s] w fun e w' => e = .returned (.tuple #[.pointer (some ⟨w.heap.size, 0, none⟩), .bool true]) ∧ StoreAt w' w.heap.size l (bsN (imageC N ls rs)) ∧ Below w.heap.size w w' := by
  obtain ⟨a, c, rfl⟩ := h.shape
  have HH := Hid.mk2 h
  have HG := Hid.mk2 hg
  have HP := Hid.mk2 hp
  have HS := Hid.mk2 hs
  have HST := Hid.mk2 (store_new w)
  have HB0 := Hid.mk2 (box3 w (.cells #[.slice none 0 0, .string { data := #[] }] 95))
  have HKN := Hid.mk2 hk
  clear h hg hp hs hk
  go_enter Tryz.func12, Tryz.ntmps12
  go_wp2_with (go_at_call 26; refine (New_at _).mono ?_; rintro e _ ⟨rfl, rfl⟩)
  go_loopw [7] (fun vi wr => ∃ (j : Nat), j ≤ l.length ∧ vi = .int .i64 ((j : Int) - 1) ∧ StoreAt wr w.heap.size (l.drop j) { data := #[] } ∧ Below w.heap.size w wr) (fun i _ => (intOf i + 1).toNat)
  case atStart => exact ⟨l.length, Nat.le_refl _, by go_num, by rw [List.drop_length]; exact HST.out, HB0.out⟩
  case round =>
    obtain ⟨j, hj, rfl, hst, hbel⟩ := hrel
    have HQ := Hid.mk2 hst
    have HBL := Hid.mk2 hbel
    have hbs := hbel.size
    clear hst hbel
    by_cases hj0 : j = 0
    · subst hj0
      go_wp2_with (go_at_call 41; refine (Load_known s hz HKN.out _ _ _ _ (HG.out.below HBL.out) (HP.out.below HBL.out) HQ.out).mono ?_; rintro e w2 ⟨rfl, hs2, hb2⟩; have H1 := Hid.mk2 hs2; have H2 := Hid.mk2 hb2; clear hs2 hb2)
      go_ret2
      exact ⟨rfl, by simpa using H1.out, HBL.out.trans (H2.out.below (Nat.le_refl _) hbs)⟩
    · obtain ⟨i, rfl⟩ : ∃ i, j = i + 1 := ⟨j - 1, by omega⟩
      have hil : i < l.length := by omega
      have hd : decide (0 ≤ (i : Int)) = true := by simp
      have hsub : ((i + 1 : Nat) : Int) - 1 = (i : Int) := by simp
      obtain ⟨g, o, cap, hcut, hcap, hgl, hc⟩ := HH.out.pos (by omega)
      cases hcut
      obtain ⟨c0, c1, c2, c3, c4⟩ := bin_cells hc i hil
      have e0 := (HBL.out.cell (p := ⟨g, o + i * 5, none⟩) hgl).trans c0
      have e1 := (HBL.out.cell (p := ⟨g, o + i * 5 + 1, none⟩) hgl).trans c1
      have e2 := (HBL.out.cell (p := ⟨g, o + i * 5 + 2, none⟩) hgl).trans c2
      have e3 := (HBL.out.cell (p := ⟨g, o + i * 5 + 3, none⟩) hgl).trans c3
      have e4 := (HBL.out.cell (p := ⟨g, o + i * 5 + 4, none⟩) hgl).trans c4
      have HK : Hid (addK (l.drop (i + 1)) l[i] = 0) := addK_front (HS.out.ok _ (List.getElem_mem hil)) (shelf_front HS.out i hil) (by simp; omega)
      have HI : Hid (insB (l.drop (i + 1)) l[i] = l.drop i) := by rw [Hid, insB_front (shelf_front HS.out i hil), ← drop_next hil]
      have hl100 : (l.drop (i + 1)).length ≤ 100 := by simp; omega
      generalize hx : l[i] = x at *
      clear hc c0 c1 c2 c3 c4 hx
      rw [hsub]
      go_wp2_with (go_at_call 20; refine (stAdd_any _ _ _ x _ HQ.out hl100).mono ?_; rintro e w2 ⟨rfl, hs2, hb2, _⟩; rw [HK.out] at hs2 ⊢; rw [if_pos rfl, HI.out] at hs2; have H1 := Hid.mk2 hs2; have H2 := Hid.mk2 hb2; clear hs2 hb2)
      go_roundw
      case rel => exact ⟨i, by omega, by go_num, H1.out, HBL.out.trans (H2.out.below (Nat.le_refl _) hbs)⟩
      case measure => simp [intOf]
set_option maxHeartbeats 2000000 in
set_option maxRecDepth 100000 in
theorem samePlaces_any (l : List Plc) (hl : l.length ≤ 1000) (va vb : Value) (w : World) (ha : Reads w va l.length (cellsQ l)) (hb : Reads w vb l.length (cellsQ l)) :
    Calls Tryz.prog 23 #[va, vb] w fun e w' => e = .returned (.bool true) ∧ Below w.heap.size w w' := by
  obtain ⟨a, c, rfl⟩ := ha.shape
  obtain ⟨a2, c2, rfl⟩ := hb.shape
  have HA := Hid.mk2 ha
  have HB := Hid.mk2 hb
  clear ha hb
  go_enter Tryz.func23, Tryz.ntmps23
  go_wp2
  go_loopw [5] (fun vi wr => ∃ i : Nat, i ≤ l.length ∧ vi = .int .i64 i ∧ Below w.heap.size w wr) (fun i _ => l.length - (intOf i).toNat)
  case atStart => exact ⟨0, Nat.zero_le _, rfl, Below.refl _ _⟩
  case round =>
    obtain ⟨i, hi, rfl, hbel⟩ := hrel
    by_cases hlt : i < l.length
    · obtain ⟨g, o, cap, hcut, hcap, hg, d0, d1⟩ := plc_cells HA.out hlt
      cases hcut
      obtain ⟨g2, o2, cap2, hcut2, hcap2, hg2, d2, d3⟩ := plc_cells HB.out hlt
      cases hcut2
      have e0 := (hbel.cell (p := ⟨g, o + i * 2, none⟩) hg).trans d0
      have e1 := (hbel.cell (p := ⟨g, o + i * 2 + 1, none⟩) hg).trans d1
      have e2 := (hbel.cell (p := ⟨g2, o2 + i * 2, none⟩) hg2).trans d2
      have e3 := (hbel.cell (p := ⟨g2, o2 + i * 2 + 1, none⟩) hg2).trans d3
      generalize hx : l[i] = x at *
      have hgw : g < wr.heap.size := Nat.lt_of_lt_of_le hg hbel.size
      have hgw2 : g2 < wr.heap.size := Nat.lt_of_lt_of_le hg2 hbel.size
      have HBL := Hid.mk2 hbel
      clear d0 d1 d2 d3 hx hbel
      go_upto_region 6 with fail
      go_quiet (fail)
      go_wp2
      go_roundw
      case rel => exact ⟨i + 1, by omega, by go_num, below_drewN HBL.out _⟩
      case measure => simp [intOf]; omega
    · go_wp2
      go_ret
      exact ⟨rfl, hbel⟩
theorem run_copy2 {P : Program} (w : World) (dT sT ty elem : TypeId) (g dCap n : Nat) (a : Addr) (sCap : Nat) (cur : Array Value) (t : TypeId) (cs : List Value)
    (hu : P.underlying dT = some (.slice elem)) (hs : (P.info? elem).map (·.size) = some 2)
    (hg : w.heap[g]? = some (.cells cur t (0, 0))) (hn : cs.length = n * 2)
    (hsrc : ∀ j v, cs[j]? = some v → w.cell? (a.add j) = some v) (hfit : cur.size = n * 2) (h1 : ∀ v ∈ cs, v.oneCell' = true) :
    (Builtin.copy_ #[dT, sT] ty #[.slice (some ⟨g, 0, none⟩) n dCap, .slice (some a) n sCap]).run P w = .ok (goInt n) (w.setRow g cs.toArray) := by
  have hl := run_loadCells_list (P := P) w a cs hsrc
  have hst := run_storeCells_at P g 0 t cs 0 cur w hg (by omega) h1
  have he : (cur.toList.take (0 + 0) ++ cs ++ cur.toList.drop (0 + 0 + cs.length)).toArray = cs.toArray := by
    have : cur.toList.drop (0 + 0 + cs.length) = [] := List.drop_eq_nil_of_le (by simp; omega)
    rw [this]
    simp
  rw [he] at hst
  cases hq : P.info? elem with
  | none => simp [hq] at hs
  | some i =>
    have hi : i.size = 2 := by simpa [hq] using hs
    rw [hn] at hl
    simp [Builtin.copy_, run_underlying hu, Builtin.lenOf, Builtin.firstCells, sizeOf, typeInfo, hq, hi, hl, hst]
theorem wpList_copy2 {P : Program} {w : World} {ops : Array Oper} {rest : List Oper} {o : Oper} {a : Act} {Q : Exit → Act → World → Prop} (hgd : o.guard = none) (d s : Operand) (dT sT : TypeId)
    (ho : o.op = .call { callee := .builtin .copy, args := #[d, s], argTypes := #[dT, sT] }) (elem : TypeId) (hu : P.underlying dT = some (.slice elem)) (hsz : (P.info? elem).map (·.size) = some 2)
    (g dCap n : Nat) (ad : Addr) (sCap : Nat) (hd : a.eval d = .slice (some ⟨g, 0, none⟩) n dCap) (hs : a.eval s = .slice (some ad) n sCap)
    (cur : Array Value) (t : TypeId) (hg : w.heap[g]? = some (.cells cur t (0, 0))) (cs : List Value) (hn : cs.length = n * 2)
    (hsrc : ∀ j v, cs[j]? = some v → w.cell? (ad.add j) = some v) (hfit : cur.size = n * 2) (h1 : ∀ v ∈ cs, v.oneCell' = true)
    (h : wpList P ops Q rest (a.put o.dst (goInt n)) (w.setRow g cs.toArray)) : wpList P ops Q (o :: rest) a w := by
  refine wpList_plain hgd fun K hK => ?_
  have hrun := run_copy2 (P := P) w dT sT o.type elem g dCap n ad sCap cur t cs hu hsz hg hn hsrc hfit h1
  unfold Oper.wp
  simp [execOp, ho, resolve, invoke, builtin, hd, hs, hrun, Result.andThen]
  exact hK _ _ h
end Go.Proofs.YtnnbhebklnappaaGreatDoor

set_option linter.unusedVariables false
set_option linter.unusedSimpArgs false
namespace Go.Proofs.YtnnbhebklnappaaGreatDoor
open Go.RowKit

/-- A move. -/
structure Mov where
  pick : Bool
  bin : Int
  n : Int
def cellM (m : Mov) : List Value := [.bool m.pick, .int .i64 m.bin, .int .i64 m.n]
def cellsM (l : List Mov) : List Value := l.flatMap cellM
theorem cellsM_at (l : List Mov) (i : Nat) (h : i < l.length) (j : Nat) (hj : j < 3) : (cellsM l)[i * 3 + j]? = (cellM l[i])[j]? := by
  induction l generalizing i with
  | nil => simp at h
  | cons a r ih =>
    cases i with
    | zero =>
      simp only [cellsM, List.flatMap_cons, Nat.zero_mul, Nat.zero_add, List.getElem_cons_zero]
      rw [List.getElem?_append_left (by simp [cellM]; omega)]
    | succ i =>
      have hi : i < r.length := by simpa using h
      have := ih i hi
      simp only [cellsM, List.flatMap_cons, List.getElem_cons_succ] at this ⊢
      rw [List.getElem?_append_right (by simp [cellM]; omega), ← this]
      congr 1
      simp [cellM]; omega
/-- The caller's list reads so, the store's bins so. -/
structure KM (w0 wx : World) (gl c N sb : Nat) (L L' : List Bn) (im : ByteArray) : Prop where
  row : wx.ownsRow w0.heap.size 25 5 (.slice (some ⟨gl, 0, none⟩) N c) N (cellsB L)
  st : StoreAt wx sb L' im
  bl : Below w0.heap.size w0 wx
theorem KM.below {w0 wx w' : World} {gl c N sb : Nat} {L L' : List Bn} {im : ByteArray} (h : KM w0 wx gl c N sb L L' im) (hb : Below wx.heap.size wx w') : KM w0 w' gl c N sb L L' im := ⟨own_below h.row hb, h.st.below hb, h.bl.trans (hb.mono h.bl.size)⟩
theorem KM.al {w0 wx : World} {gl c N sb : Nat} {L L' : List Bn} {im : ByteArray} (h : KM w0 wx gl c N sb L L' im) (o : Obj) : KM w0 (wx.alloc o) gl c N sb L L' im := h.below (box3 wx o)
theorem KM.dr {w0 wx : World} {gl c N sb : Nat} {L L' : List Bn} {im : ByteArray} (h : KM w0 wx gl c N sb L L' im) : KM w0 wx.drew gl c N sb L L' im := h.below (below_drewN (Below.refl _ wx) 1)
theorem KM.but {w0 wx w' : World} {gl c N sb : Nat} {L L' L2 : List Bn} {im : ByteArray} (h : KM w0 wx gl c N sb L L' im) (hb : But sb wx w') (hs : StoreAt w' sb L2 im) (hg : gl < sb) (hw : w0.heap.size ≤ gl) : KM w0 w' gl c N sb L L2 im := by
  refine ⟨own_but h.row hb fun k hk => ?_, hs, h.bl.trans (hb.below (by omega) h.bl.size)⟩
  simp [Value.ownBlock] at hk
  omega
theorem KM.glt {w0 wx : World} {gl c N sb : Nat} {L L' : List Bn} {im : ByteArray} (h : KM w0 wx gl c N sb L L' im) : gl < wx.heap.size := (h.row.lt gl rfl).2
/-- A cell of another block is written. -/
theorem KM.oth {w0 wx : World} {gl c N sb : Nat} {L L' : List Bn} {im : ByteArray} (h : KM w0 wx gl c N sb L L' im) (b i : Nat) (v : Value) (hb : b ≠ gl) (hb2 : sb ≠ b) (hw : w0.heap.size ≤ b) (hoff : ∀ v im, Blk wx sb #[v, .string im] 95 → ∀ k, v.ownBlock = some k → k ≠ b) : KM w0 (wx.setCell ⟨b, i, none⟩ v) gl c N sb L L' im := by
  refine ⟨?_, h.st.st b i v hb2 (fun a c h1 k hk => hoff _ _ h1 k hk), h.bl.setCell (p := ⟨b, i, none⟩) hw v⟩
  refine ⟨h.row.1, ?_⟩
  rcases h.row.2 with ⟨hv, _⟩ | ⟨g, cap, cur, hv, hbg, hh, r⟩
  · cases hv
  · refine .inr ⟨g, cap, cur, hv, hbg, ?_, r⟩
    cases hv
    rw [Below.heap_setCell _ _ _ _ (by simpa using hb.symm)]
    exact hh
theorem off_set {w : World} {sb b i : Nat} {x : Value} (hb2 : sb ≠ b) (hoff : ∀ v im, Blk w sb #[v, .string im] 95 → ∀ k, v.ownBlock = some k → k ≠ b) : ∀ v im, Blk (w.setCell ⟨b, i, none⟩ x) sb #[v, .string im] 95 → ∀ k, v.ownBlock = some k → k ≠ b := fun v im h => hoff v im (h.back (by simpa using hb2))
theorem KM.oth5 {w0 wx : World} {gl c N sb : Nat} {L L' : List Bn} {im : ByteArray} (h : KM w0 wx gl c N sb L L' im) (b : Nat) (v0 v1 v2 v3 v4 : Value) (hb : b ≠ gl) (hb2 : sb ≠ b) (hw : w0.heap.size ≤ b) (hoff : ∀ v im, Blk wx sb #[v, .string im] 95 → ∀ k, v.ownBlock = some k → k ≠ b) :
    KM w0 (((((wx.setCell ⟨b, 0, none⟩ v0).setCell ⟨b, 1, none⟩ v1).setCell ⟨b, 2, none⟩ v2).setCell ⟨b, 3, none⟩ v3).setCell ⟨b, 4, none⟩ v4) gl c N sb L L' im :=
  ((((h.oth b 0 v0 hb hb2 hw hoff).oth b 1 v1 hb hb2 hw (off_set hb2 hoff)).oth b 2 v2 hb hb2 hw (off_set hb2 (off_set hb2 hoff))).oth b 3 v3 hb hb2 hw (off_set hb2 (off_set hb2 (off_set hb2 hoff)))).oth b 4 v4 hb hb2 hw (off_set hb2 (off_set hb2 (off_set hb2 (off_set hb2 hoff))))
/-- The caller's list is written, too. -/
theorem KM.own5 {w0 wx : World} {gl c N sb : Nat} {L L' : List Bn} {im : ByteArray} (h : KM w0 wx gl c N sb L L' im) (i : Nat) (hi : i < L.length) (b : Bn) (hg : gl < sb) (hw : w0.heap.size ≤ gl) :
    KM w0 (((((wx.setCell ⟨gl, i * 5, none⟩ (.int .i64 b.id)).setCell ⟨gl, i * 5 + 1, none⟩ (.int .i64 b.zone)).setCell ⟨gl, i * 5 + 2, none⟩ (.int .i64 b.cap)).setCell ⟨gl, i * 5 + 3, none⟩ (.int .i64 b.used)).setCell ⟨gl, i * 5 + 4, none⟩ (.int .i64 b.has)) gl c N sb (L.set i b) L' im := by
  have hoff : ∀ v im, Blk wx sb #[v, .string im] 95 → ∀ k, v.ownBlock = some k → k ≠ gl := by
    intro v im' hv k hk
    obtain ⟨a, c, h1, h2⟩ := h.st.ok
    have hv' : v = .slice a L'.length c := by
      have h3 := congrArg (fun x : Array Value => x[0]?) (Blk.same hv h1)
      simpa using h3
    subst hv'
    have := (h2.lt k hk).1
    omega
  have hne : sb ≠ gl := by omega
  refine ⟨own_set5 h.row i hi b, ?_, below_set5 h.bl gl i hw b⟩
  have s1 := h.st.st gl (i * 5) (.int .i64 b.id) hne (fun a c h1 k hk => hoff _ _ h1 k hk)
  have s2 := s1.st gl (i * 5 + 1) (.int .i64 b.zone) hne (fun a c h1 k hk => off_set hne hoff _ _ h1 k hk)
  have s3 := s2.st gl (i * 5 + 2) (.int .i64 b.cap) hne (fun a c h1 k hk => off_set hne (off_set hne hoff) _ _ h1 k hk)
  have s4 := s3.st gl (i * 5 + 3) (.int .i64 b.used) hne (fun a c h1 k hk => off_set hne (off_set hne (off_set hne hoff)) _ _ h1 k hk)
  exact s4.st gl (i * 5 + 4) (.int .i64 b.has) hne (fun a c h1 k hk => off_set hne (off_set hne (off_set hne (off_set hne hoff))) _ _ h1 k hk)
/-- The store's list lies beside a block that was made just ahead of a move. -/
theorem off_new {wr w3 : World} {sb : Nat} {L' : List Bn} {im : ByteArray} {o : Obj} (h : StoreAt wr sb L' im) (hr : RowNew ((wr.alloc o).drew) w3 sb) : ∀ v im, Blk w3 sb #[v, .string im] 95 → ∀ k, v.ownBlock = some k → k ≠ wr.heap.size := by
  intro v im' hv k hk
  rcases hr v im' hv with ⟨im0, h0⟩ | h0
  · obtain ⟨a, c, h1, h2⟩ := h.ok
    have h1' : Blk (wr.alloc o).drew sb #[.slice a L'.length c, .string im] 95 := (h1.alloc o).drew
    have hv' : v = .slice a L'.length c := by
      have h3 := congrArg (fun x : Array Value => x[0]?) (Blk.same h0 h1')
      simpa using h3
    subst hv'
    have := (h2.lt k hk).2
    omega
  · have := h0 k hk
    simp at this
    omega
end Go.Proofs.YtnnbhebklnappaaGreatDoor

set_option linter.unusedVariables false
set_option linter.unusedSimpArgs false
namespace Go.Proofs.YtnnbhebklnappaaGreatDoor
open Go.RowKit

theorem Shelf.pw {l : List Bn} (h : Shelf l) : l.Pairwise (fun a b => a.id < b.id) := by
  rw [List.pairwise_iff_getElem]
  exact fun i j hi hj hij => h.up i j hi hj hij
theorem Shelf.sub {l l' : List Bn} (h : Shelf l) (hs : l'.Sublist l) : Shelf l' := by
  have hp := h.pw.sublist hs
  rw [List.pairwise_iff_getElem] at hp
  exact ⟨fun i j hi hj hij => hp i j hi hj hij, fun b hb => h.ok b (hs.subset hb)⟩
def leftB (L : List Bn) (i : Nat) : List Bn := (L.take i).filter fun b => decide (0 < b.used)
def bsAt (L : List Bn) (i : Nat) : List Bn := leftB L i ++ L.drop i
theorem bsAt_sub (L : List Bn) (i : Nat) : (bsAt L i).Sublist L := by
  have h : (leftB L i ++ L.drop i).Sublist (L.take i ++ L.drop i) := List.Sublist.append List.filter_sublist (List.Sublist.refl _)
  rw [List.take_append_drop] at h
  exact h
theorem bsAt_zero (L : List Bn) : bsAt L 0 = L := by simp [bsAt, leftB]
theorem bsAt_end (L : List Bn) : bsAt L L.length = leftB L L.length := by simp [bsAt]
theorem leftB_yes {L : List Bn} {i : Nat} (hi : i < L.length) (hu : 0 < L[i].used) : leftB L (i + 1) = leftB L i ++ [L[i]] := by
  unfold leftB
  rw [take_next hi, List.filter_append]
  simp [hu]
theorem leftB_no {L : List Bn} {i : Nat} (hi : i < L.length) (hu : ¬ 0 < L[i].used) : leftB L (i + 1) = leftB L i := by
  unfold leftB
  rw [take_next hi, List.filter_append]
  simp [hu]
theorem bsAt_yes {L : List Bn} {i : Nat} (hi : i < L.length) (hu : 0 < L[i].used) : bsAt L (i + 1) = bsAt L i := by
  unfold bsAt
  rw [leftB_yes hi hu, drop_next hi]
  simp
theorem bsAt_find {L : List Bn} (h : Shelf L) {i : Nat} (hi : i < L.length) : findB (bsAt L i) L[i].id = some L[i] := by
  have hs := h.sub (bsAt_sub L i)
  have hl : (leftB L i).length < (bsAt L i).length := by simp [bsAt]; omega
  have he : (bsAt L i)[(leftB L i).length] = L[i] := by simp [bsAt]
  have := findB_at hs (leftB L i).length hl
  rw [he] at this
  exact this
theorem left_ne {L : List Bn} (h : Shelf L) {i : Nat} (hi : i < L.length) : (∀ x ∈ leftB L i, x.id ≠ L[i].id) ∧ ∀ x ∈ L.drop (i + 1), x.id ≠ L[i].id := by
  refine ⟨fun x hx => ?_, fun x hx => ?_⟩
  · have hx' := (List.mem_filter.1 hx).1
    obtain ⟨j, hj, rfl⟩ := List.getElem_of_mem hx'
    simp at hj
    rw [List.getElem_take]
    have := h.up j i (by omega) hi (by omega)
    omega
  · have := shelf_front h i hi x hx
    omega
theorem bsAt_drop {L : List Bn} (h : Shelf L) {i : Nat} (hi : i < L.length) (hu : ¬ 0 < L[i].used) : dropB (bsAt L i) L[i].id = bsAt L (i + 1) ∧ findB (bsAt L (i + 1)) L[i].id = none := by
  obtain ⟨h1, h2⟩ := left_ne h hi
  have e : bsAt L (i + 1) = leftB L i ++ L.drop (i + 1) := by unfold bsAt; rw [leftB_no hi hu]
  refine ⟨?_, ?_⟩
  · rw [e]
    unfold dropB bsAt
    rw [drop_next hi, List.filter_append, List.filter_cons]
    simp only [bne_self_eq_false, Bool.false_eq_true, if_false]
    rw [List.filter_eq_self.2 (fun x hx => by simpa using h1 x hx), List.filter_eq_self.2 (fun x hx => by simpa using h2 x hx)]
  · rw [e]
    exact findB_none fun x hx => (List.mem_append.1 hx).elim (h1 x) (h2 x)
theorem remK_used {L : List Bn} (h : Shelf L) {i : Nat} (hi : i < L.length) (hu : 0 < L[i].used) : remK (bsAt L i) L[i].id = 14 := by
  unfold remK
  rw [bsAt_find h hi]
  simp [hu]
theorem remK_free {L : List Bn} (h : Shelf L) {i : Nat} (hi : i < L.length) (hu : ¬ 0 < L[i].used) : remK (bsAt L i) L[i].id = 0 := by
  unfold remK
  rw [bsAt_find h hi]
  simp [hu]
theorem remK_none {l : List Bn} {id : Int} (h : findB l id = none) : remK l id = 12 := by unfold remK; rw [h]
theorem putK_none {l : List Bn} {id n : Int} (h : findB l id = none) : putK l id n = 12 := by unfold putK; rw [h]
/-- The store's list and another row lie apart. -/
def Sep (wr : World) (sb : Nat) (u : Value) : Prop := ∀ v im, Blk wr sb #[v, .string im] 95 → ∀ k, v.ownBlock = some k → u.ownBlock ≠ some k
theorem Sep.to {w w' : World} {sb : Nat} {u : Value} (h : Sep w sb u) (hr : RowNew w w' sb) (hu : ∀ k, u.ownBlock = some k → k < w.heap.size) : Sep w' sb u := by
  intro v im hv k hk hk'
  rcases hr v im hv with ⟨im0, h0⟩ | h0
  · exact h v im0 h0 k hk hk'
  · have := h0 k hk
    have := hu k hk'
    omega
theorem Sep.below {w w' : World} {sb : Nat} {u : Value} (h : Sep w sb u) (hlt : sb < w.heap.size) (hb : Below w.heap.size w w') : Sep w' sb u := by
  intro v im hv k hk hk'
  exact h v im ((hb.block sb hlt).symm.trans hv) k hk hk'
theorem store_row {w : World} {sb : Nat} {bs : List Bn} {im : ByteArray} (h : StoreAt w sb bs im) : ∀ v im, Blk w sb #[v, .string im] 95 → ∀ k, v.ownBlock = some k → sb < k ∧ k < w.heap.size := by
  intro v im' hv k hk
  obtain ⟨a, c, h1, h2⟩ := h.ok
  have hv' : v = .slice a bs.length c := by
    have h3 := congrArg (fun x : Array Value => x[0]?) (Blk.same hv h1)
    simpa using h3
  subst hv'
  have := h2.lt k hk
  omega
/-- A row beside the store grows. -/
theorem KM.grown {w0 wx w' : World} {gl c N sb : Nat} {L L' : List Bn} {im : ByteArray} {u u' : Value} {o : Obj} (h : KM w0 wx gl c N sb L L' im) (hg : (wx.alloc o).grownBy w' u.ownBlock) (hu : ∀ k, u.ownBlock = some k → sb < k) (hgs : gl < sb) (hw : w0.heap.size ≤ gl) (hsep : Sep wx sb u)
    (hu' : ∀ k, u'.ownBlock = some k → u.ownBlock = some k ∨ wx.heap.size ≤ k) : KM w0 w' gl c N sb L L' im ∧ Sep w' sb u' := by
  have hsl := h.st.lt
  have hbk : ∀ k, k < wx.heap.size → u.ownBlock ≠ some k → w'.heap[k]? = wx.heap[k]? := by
    intro k hk hne
    rw [hg.block k (by simp; omega) (fun he => hne he.symm)]
    exact (box3 wx o).block k hk
  have hsb : w'.heap[sb]? = wx.heap[sb]? := hbk sb hsl (fun he => by have := hu sb he; omega)
  refine ⟨⟨?_, ?_, ?_⟩, ?_⟩
  · refine ⟨h.row.1, ?_⟩
    rcases h.row.2 with ⟨hv, _⟩ | ⟨g, cap, cur, hv, hbg, hh, r⟩
    · cases hv
    · refine .inr ⟨g, cap, cur, hv, hbg, ?_, r⟩
      cases hv
      rw [hbk gl (lt_of_block hh) (fun he => by have := hu gl he; omega)]
      exact hh
  · obtain ⟨a, c', h1, h2⟩ := h.st.ok
    refine ⟨a, c', hsb.trans h1, h2.1, ?_⟩
    rcases h2.2 with hn | ⟨g, cap, cur, hv, hbg, hh, r⟩
    · exact .inl hn
    · refine .inr ⟨g, cap, cur, hv, hbg, ?_, r⟩
      rw [hbk g (lt_of_block hh) (hsep _ _ h1 g (by rw [hv]; rfl))]
      exact hh
  · exact (h.bl.alloc h.bl.size o).grown hg (by have := h.bl.size; simp; omega) (fun k hk => by have := hu k hk; omega)
  · intro v im' hv k hk hk'
    have hv0 : Blk wx sb #[v, .string im'] 95 := hsb.symm.trans hv
    rcases hu' k hk' with h3 | h3
    · exact hsep v im' hv0 k hk h3
    · have := (store_row h.st v im' hv0 k hk).2
      omega
end Go.Proofs.YtnnbhebklnappaaGreatDoor

set_option linter.unusedVariables false
set_option linter.unusedSimpArgs false
namespace Go.Proofs.YtnnbhebklnappaaGreatDoor
open Go.RowKit

theorem mov_cells {w : World} {ms : List Mov} {g o : Nat} (hc : ∀ j u, (cellsM ms)[j]? = some u → w.cell? ⟨g, o + j, none⟩ = some u) (i : Nat) (hi : i < ms.length) :
    w.cell? ⟨g, o + i * 3, none⟩ = some (.bool ms[i].pick) ∧ w.cell? ⟨g, o + i * 3 + 1, none⟩ = some (.int .i64 ms[i].bin) ∧ w.cell? ⟨g, o + i * 3 + 2, none⟩ = some (.int .i64 ms[i].n) :=
  ⟨hc _ _ (cellsM_at ms i hi 0 (by omega)), hc _ _ (cellsM_at ms i hi 1 (by omega)), hc _ _ (cellsM_at ms i hi 2 (by omega))⟩
end Go.Proofs.YtnnbhebklnappaaGreatDoor
