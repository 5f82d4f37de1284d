/-
  Compile: node: names, and attributes.
  Compile: the facts of all nodes, in memory.
-/
import Derived.Test.YtnnbhebklnappaaGreatDoorY36
import Derived.Deep.RegionWith
import Derived.Test.YtnnbhebklnappaaGreatDoorY35
set_option linter.unusedVariables false
set_option linter.unusedSimpArgs false
namespace Go.Proofs.YtnnbhebklnappaaGreatDoor
open Go.RowKit Go.Deep

set_option maxHeartbeats 4000000 in
set_option maxRecDepth 100000 in
theorem node_name {cb : Nat} {na : Option Addr} {nc : Nat} {lv rv fv : Value} {N : List PNode} {ls : List PLet} {rs : List PRule} {fs : List Fact} (j b below h : Nat) (hj : j < b) (hbN : b ≤ N.length) (hbl : below + b ≤ 1000) (n : PNode) (hnj : N[j]? = some n) (hn : NodeOk n) (hfa : atF fs (j : Int) = none) (h1 : n.ops = 0) (hc : isChK (kindP n.tok.text) = false) (hk : kindP n.tok.text = 2) (hx : ∀ p ∈ ls, 1 ≤ p.val.behind ∧ p.val.behind ≤ 401) (cl : List Nat) (h' : Nat) (HI : Hid (∀ wx, CmpAt wx cb (.slice na N.length nc) lv rv fv h N ls rs fs → Calls Tryz.prog 140 #[.pointer (some ⟨cb, 0, none⟩), .slice na j nc, .int .i64 (meantI ls n.tok.text), .int .i64 below] wx fun e w' => e = .returned (.string (bsN cl)) ∧ CmpAt w' cb (.slice na N.length nc) lv rv fv h' N ls rs fs ∧ But cb wx w')) (w : World) (H : CmpAt w cb (.slice na N.length nc) lv rv fv h N ls rs fs) :
    Calls Tryz.prog 140 #[.pointer (some ⟨cb, 0, none⟩), .slice na b nc, .int .i64 j, .int .i64 below] w fun e w' => e = .returned (.string (bsN cl)) ∧ CmpAt w' cb (.slice na N.length nc) lv rv fv h' N ls rs fs ∧ But cb w w' := by
  have HM := Hid.mk2 (NdSt.start H n)
  have hnl := hn.left
  have hnr := hn.right
  have hnb := H.pa.nb
  obtain ⟨g, o, rfl, hg, hcap, d0, d1, d2, d3, d4, d5⟩ := node_cells H hnj
  have hsl := fun wx => sliceN g o b nc j (by omega) (by omega) wx
  have hlcb := H.blk.lt
  have q3 := H.blk.cell 3
  simp only [List.getElem?_toArray, List.getElem?_cons_zero, List.getElem?_cons_succ] at q3
  have e0 : decide ((j : Int) < 0) = false := decide_eq_false (by omega)
  have e1 : decide ((b : Int) ≤ (j : Int)) = false := decide_eq_false (by omega)
  have HFA : Hid (atF fs (j : Int) = none) := hfa
  have e2 : ((n.ops : Int) == 1) = false := by simp; omega
  have e3 : ((n.ops : Int) == 2) = false := by simp; omega
  have e4 : ((kindP n.tok.text : Int) == 2) = true := by simp; omega
  have HCH := Hid.mk2 hc
  have HX := Hid.mk2 hx
  have HLB := Hid.mk2 H.pa.lb
  have HBT : Hid ((bsOf n.tok.text).toList = n.tok.text) := bsOf_toList _
  clear h1 hc hk hx
  clear H hnj hfa
  have HN := Hid.mk2 hn
  clear hn
  go_enter Tryz.func140, Tryz.ntmps140
  go_upto_region 6 with (go_at_call 116; refine (factAt_any fs _ (j : Int) _ HM.out.c.fr HM.out.c.fb ⟨by omega, by omega⟩).mono ?_; rintro e w1 ⟨rfl, hb1⟩; rw [HFA.out]; rw [show factA none = .agg #[.bool false, .int .i64 0] from rfl]; clear q3; replace HM := Hid.mk2 ((HM.out.below hb1).al (.cells #[.bool false, .int .i64 0] 158)); clear hb1; have n0 := HM.out.nd.cell 0; have n1 := HM.out.nd.cell 1; have n2 := HM.out.nd.cell 2; have n3 := HM.out.nd.cell 3; have n4 := HM.out.nd.cell 4; have n5 := HM.out.nd.cell 5; have k0 := HM.out.c.blk.cell 0; have k1 := HM.out.c.blk.cell 1; have k3 := HM.out.c.blk.cell 3; have hln := HM.out.nd.lt; have hlc := HM.out.c.blk.lt; simp only [nodC, List.getElem?_toArray, List.getElem?_cons_zero, List.getElem?_cons_succ] at n0 n1 n2 n3 n4 n5 k0 k1 k3)
  go_upto_region 18 with (go_at_call 119; refine (isChoice_any n _).mono ?_; rintro e w2 ⟨rfl, hb2⟩; rw [HCH.out]; clear n0 n1 n2 n3 n4 n5 k0 k1 k3 hln hlc; replace HM := Hid.mk2 (HM.out.below hb2); clear hb2; have n0 := HM.out.nd.cell 0; have n1 := HM.out.nd.cell 1; have n2 := HM.out.nd.cell 2; have n3 := HM.out.nd.cell 3; have n4 := HM.out.nd.cell 4; have n5 := HM.out.nd.cell 5; have k0 := HM.out.c.blk.cell 0; have k1 := HM.out.c.blk.cell 1; have k3 := HM.out.c.blk.cell 3; have hln := HM.out.nd.lt; have hlc := HM.out.c.blk.lt; simp only [nodC, List.getElem?_toArray, List.getElem?_cons_zero, List.getElem?_cons_succ] at n0 n1 n2 n3 n4 n5 k0 k1 k3)
  go_region_with (first
    | (go_at_call 122; refine (meantBy_any ls _ (bsOf n.tok.text) _ (by first | with_reducible exact HM.out.c.pa.l | with_reducible exact HM.out.dr.c.pa.l) HLB.out HX.out).mono ?_; rintro e w3 ⟨rfl, hb3⟩; rw [HBT.out]; clear n0 n1 n2 n3 n4 n5 k0 k1 k3 hln hlc; replace HM := Hid.mk2 (by first | with_reducible exact HM.out.below hb3 | with_reducible exact HM.out.dr.below hb3); clear hb3; have n0 := HM.out.nd.cell 0; have n1 := HM.out.nd.cell 1; have n2 := HM.out.nd.cell 2; have n3 := HM.out.nd.cell 3; have n4 := HM.out.nd.cell 4; have n5 := HM.out.nd.cell 5; have k0 := HM.out.c.blk.cell 0; have k1 := HM.out.c.blk.cell 1; have k3 := HM.out.c.blk.cell 3; have hln := HM.out.nd.lt; have hlc := HM.out.c.blk.lt; simp only [nodC, List.getElem?_toArray, List.getElem?_cons_zero, List.getElem?_cons_succ] at n0 n1 n2 n3 n4 n5 k0 k1 k3)
    | (go_at_call 140; refine (HI.out _ HM.out.c).mono ?_; rintro e w4 ⟨rfl, hc4, hb4⟩; clear n0 n1 n2 n3 n4 n5 k0 k1 k3 hln hlc; replace HM := Hid.mk2 (HM.out.call hc4 hb4); clear hc4 hb4))
  all_goals
    go_wp2
    go_ret
    exact ⟨rfl, HM.out.c, HM.out.bu⟩
set_option maxHeartbeats 4000000 in
set_option maxRecDepth 100000 in
theorem node_attr {cb : Nat} {na : Option Addr} {nc : Nat} {lv rv fv : Value} {N : List PNode} {ls : List PLet} {rs : List PRule} {fs : List Fact} (j b below h : Nat) (hj : j < b) (hbN : b ≤ N.length) (hbl : below + b ≤ 1000) (n : PNode) (hnj : N[j]? = some n) (hn : NodeOk n) (hfa : atF fs (j : Int) = none) (h1 : n.ops = 0) (hc : isChK (kindP n.tok.text) = false) (hk : kindP n.tok.text ≠ 2) (hk2 : kindP n.tok.text ≤ 100) (w : World) (H : CmpAt w cb (.slice na N.length nc) lv rv fv h N ls rs fs) :
    Calls Tryz.prog 140 #[.pointer (some ⟨cb, 0, none⟩), .slice na b nc, .int .i64 j, .int .i64 below] w fun e w' => e = .returned (.string (bsN (opC 1 ((kindP n.tok.text : Int) - 15)))) ∧ CmpAt w' cb (.slice na N.length nc) lv rv fv (layH below h) N ls rs fs ∧ But cb w w' := by
  have HM := Hid.mk2 (NdSt.start H n)
  have hnl := hn.left
  have hnr := hn.right
  have hnb := H.pa.nb
  obtain ⟨g, o, rfl, hg, hcap, d0, d1, d2, d3, d4, d5⟩ := node_cells H hnj
  have hsl := fun wx => sliceN g o b nc j (by omega) (by omega) wx
  have hlcb := H.blk.lt
  have q3 := H.blk.cell 3
  simp only [List.getElem?_toArray, List.getElem?_cons_zero, List.getElem?_cons_succ] at q3
  have e0 : decide ((j : Int) < 0) = false := decide_eq_false (by omega)
  have e1 : decide ((b : Int) ≤ (j : Int)) = false := decide_eq_false (by omega)
  have HFA : Hid (atF fs (j : Int) = none) := hfa
  have e2 : ((n.ops : Int) == 1) = false := by simp; omega
  have e3 : ((n.ops : Int) == 2) = false := by simp; omega
  have e4 : ((kindP n.tok.text : Int) == 2) = false := by simp; omega
  have HCH := Hid.mk2 hc
  have hv : In64 ((kindP n.tok.text : Int) - 15) := by unfold In64; omega
  have HV := Hid.mk2 hv
  clear h1 hc hk hv
  clear H hnj hfa
  have HN := Hid.mk2 hn
  clear hn
  go_enter Tryz.func140, Tryz.ntmps140
  go_upto_region 6 with (go_at_call 116; refine (factAt_any fs _ (j : Int) _ HM.out.c.fr HM.out.c.fb ⟨by omega, by omega⟩).mono ?_; rintro e w1 ⟨rfl, hb1⟩; rw [HFA.out]; rw [show factA none = .agg #[.bool false, .int .i64 0] from rfl]; clear q3; replace HM := Hid.mk2 ((HM.out.below hb1).al (.cells #[.bool false, .int .i64 0] 158)); clear hb1; have n0 := HM.out.nd.cell 0; have n1 := HM.out.nd.cell 1; have n2 := HM.out.nd.cell 2; have n3 := HM.out.nd.cell 3; have n4 := HM.out.nd.cell 4; have n5 := HM.out.nd.cell 5; have k0 := HM.out.c.blk.cell 0; have k1 := HM.out.c.blk.cell 1; have k3 := HM.out.c.blk.cell 3; have hln := HM.out.nd.lt; have hlc := HM.out.c.blk.lt; simp only [nodC, List.getElem?_toArray, List.getElem?_cons_zero, List.getElem?_cons_succ] at n0 n1 n2 n3 n4 n5 k0 k1 k3)
  go_wp2_with (first
    | (go_at_call 119; refine (isChoice_any n _).mono ?_; rintro e w2 ⟨rfl, hb2⟩; rw [HCH.out]; clear n0 n1 n2 n3 n4 n5 k0 k1 k3 hln hlc; replace HM := Hid.mk2 (HM.out.below hb2); clear hb2; have n0 := HM.out.nd.cell 0; have n1 := HM.out.nd.cell 1; have n2 := HM.out.nd.cell 2; have n3 := HM.out.nd.cell 3; have n4 := HM.out.nd.cell 4; have n5 := HM.out.nd.cell 5; have k0 := HM.out.c.blk.cell 0; have k1 := HM.out.c.blk.cell 1; have k3 := HM.out.c.blk.cell 3; have hln := HM.out.nd.lt; have hlc := HM.out.c.blk.lt; simp only [nodC, List.getElem?_toArray, List.getElem?_cons_zero, List.getElem?_cons_succ] at n0 n1 n2 n3 n4 n5 k0 k1 k3)
    | (go_at_call 155; refine (lay_any HM.out.c 1 (by omega) ((kindP n.tok.text : Int) - 15) HV.out below (by omega)).mono ?_; rintro e w3 ⟨rfl, hc3, hb3⟩; clear n0 n1 n2 n3 n4 n5 k0 k1 k3 hln hlc; replace HM := Hid.mk2 (HM.out.call hc3 hb3); clear hc3 hb3))
  go_ret
  exact ⟨rfl, HM.out.c, HM.out.bu⟩
end Go.Proofs.YtnnbhebklnappaaGreatDoor

set_option linter.unusedVariables false
set_option linter.unusedSimpArgs false
namespace Go.Proofs.YtnnbhebklnappaaGreatDoor
open Go.RowKit Go.Deep

/-- The facts while they are found. -/
structure FsSt (w wr : World) (nv lv rv : Value) (fb : Nat) (gs : List Fact) (N : List PNode) (ls : List PLet) (rs : List PRule) : Prop where
  bx : Blk wr w.heap.size #[nv, lv, rv] 84
  row : Blk wr fb (cellsF (padF gs N.length)).toArray 158
  pa : PolAt wr nv lv rv N ls rs
  hf : w.heap.size < fb
  le : gs.length ≤ N.length
  bl : Below w.heap.size w wr
theorem FsSt.below {w wr w' : World} {nv lv rv : Value} {fb : Nat} {gs : List Fact} {N : List PNode} {ls : List PLet} {rs : List PRule} (h : FsSt w wr nv lv rv fb gs N ls rs) (hb : Below wr.heap.size wr w') : FsSt w w' nv lv rv fb gs N ls rs :=
  ⟨h.bx.below hb h.bx.lt, h.row.below hb h.row.lt, h.pa.below hb, h.hf, h.le, h.bl.trans (hb.mono h.bl.size)⟩
theorem FsSt.dr {w wr : World} {nv lv rv : Value} {fb : Nat} {gs : List Fact} {N : List PNode} {ls : List PLet} {rs : List PRule} (h : FsSt w wr nv lv rv fb gs N ls rs) : FsSt w wr.drew nv lv rv fb gs N ls rs := h.below (below_drewN (Below.refl _ wr) 1)
theorem FsSt.reads {w wr : World} {nv lv rv : Value} {fb : Nat} {gs : List Fact} {N : List PNode} {ls : List PLet} {rs : List PRule} (h : FsSt w wr nv lv rv fb gs N ls rs) : Reads wr (.slice (some ⟨fb, 0, none⟩) N.length N.length) (padF gs N.length).length (cellsF (padF gs N.length)) := by
  refine .inr ⟨fb, 0, N.length, by rw [padF_len _ _ h.le], by rw [padF_len _ _ h.le]; exact Nat.le_refl _, h.row.lt, fun j u hj => ?_⟩
  rw [Nat.zero_add, h.row.cell]
  simpa using hj
theorem FsSt.rowc {w wr : World} {nv lv rv : Value} {fb : Nat} {gs : List Fact} {N : List PNode} {ls : List PLet} {rs : List PRule} (h : FsSt w wr nv lv rv fb gs N ls rs) {i : Nat} (hi : i < N.length) : ∃ x y, wr.cell? ⟨fb, i * 2, none⟩ = some x ∧ wr.cell? ⟨fb, i * 2 + 1, none⟩ = some y ∧ wr.frozen? ⟨fb, i * 2, none⟩ = false ∧ wr.frozen? ⟨fb, i * 2 + 1, none⟩ = false := by
  have hl : (cellsF (padF gs N.length)).length = N.length * 2 := by rw [cellsF_length, padF_len _ _ h.le]
  refine ⟨(cellsF (padF gs N.length))[i * 2]'(by omega), (cellsF (padF gs N.length))[i * 2 + 1]'(by omega), ?_, ?_, h.row.free _, h.row.free _⟩
  · rw [h.row.cell]; simp
  · rw [h.row.cell]; simp
theorem FsSt.put {w wr : World} {nv lv rv : Value} {fb : Nat} {gs : List Fact} {N : List PNode} {ls : List PLet} {rs : List PRule} (h : FsSt w wr nv lv rv fb gs N ls rs) (ha : Apart2 fb fb nv lv rv) {i : Nat} (hi : gs.length = i) (hl : i < N.length) (f : Fact) :
    FsSt w ((wr.setCell ⟨fb, i * 2, none⟩ (.bool f.isSome)).setCell ⟨fb, i * 2 + 1, none⟩ (.int .i64 (f.getD 0))) nv lv rv fb (gs ++ [f]) N ls rs := by
  subst hi
  have hf := h.hf
  refine ⟨(h.bx.other _ _ (by simp only; omega)).other _ _ (by simp only; omega), ?_, (h.pa.set1 ha _ _).set1 ha _ _, hf, by simp; omega, sets2' h.bl hf⟩
  have := (h.row.set (gs.length * 2) (.bool f.isSome)).set (gs.length * 2 + 1) (.int .i64 (f.getD 0))
  rw [padF_set gs N.length f hl] at this
  exact this
 where sets2' {w wr : World} {fb i j : Nat} {a b : Value} (h : Below w.heap.size w wr) (hf : w.heap.size < fb) : Below w.heap.size w ((wr.setCell ⟨fb, i, none⟩ a).setCell ⟨fb, j, none⟩ b) :=
  (h.setCell (p := ⟨fb, i, none⟩) (Nat.le_of_lt hf) a).setCell (p := ⟨fb, j, none⟩) (Nat.le_of_lt hf) b
theorem apart_new {w : World} {nv lv rv : Value} {N : List PNode} {ls : List PLet} {rs : List PRule} (h : PolAt w nv lv rv N ls rs) {k : Nat} (hk : w.heap.size ≤ k) : Apart2 k k nv lv rv := by
  have key : ∀ (v : Value) (n : Nat) (xs : List Value), Reads w v n xs → v.ownBlock ≠ some k := by
    intro v n xs hr
    rcases hr with ⟨rfl, _⟩ | ⟨b, o, cap, rfl, _, hlt, _⟩
    · simp [Value.ownBlock]
    · simp only [Value.ownBlock, ne_eq, Option.some.injEq]; omega
  exact ⟨⟨key _ _ _ h.n, key _ _ _ h.n⟩, ⟨key _ _ _ h.l, key _ _ _ h.l⟩, ⟨key _ _ _ h.r, key _ _ _ h.r⟩⟩
theorem fs_start {w : World} {nv lv rv : Value} {N : List PNode} {ls : List PLet} {rs : List PRule} (h : PolAt w nv lv rv N ls rs) : FsSt w ((w.alloc (.cells #[nv, lv, rv] 84)).alloc (.cells (cellsF (padF [] N.length)).toArray 158)) nv lv rv (w.heap.size + 1) [] N ls rs := by
  have hb := two_below w (.cells #[nv, lv, rv] 84) (.cells (cellsF (padF [] N.length)).toArray 158)
  refine ⟨(Blk.new w _ _).alloc _, ?_, h.below hb, by omega, Nat.zero_le _, hb⟩
  have := Blk.new (w.alloc (.cells #[nv, lv, rv] 84)) (cellsF (padF [] N.length)).toArray 158
  simpa using this
set_option maxHeartbeats 8000000 in
set_option maxRecDepth 100000 in
theorem factsOf_any (nv lv rv : Value) (N : List PNode) (ls : List PLet) (rs : List PRule) (w : World) (h : PolAt w nv lv rv N ls rs) (hn : ∀ n ∈ N, NodeOk n) (hx : ∀ p ∈ ls, 1 ≤ p.val.behind ∧ p.val.behind ≤ 401) :
    Calls Tryz.prog 59 #[polA nv lv rv] w fun e w' => Below w.heap.size w w' ∧ ∃ fb, w.heap.size < fb ∧ e = .returned (.slice (some ⟨fb, 0, none⟩) N.length N.length) ∧ Blk w' fb (cellsF (factsP ls N)).toArray 158 := by
  obtain ⟨na, nc, rfl⟩ := h.n.shape
  obtain ⟨la, lc, rfl⟩ := h.l.shape
  obtain ⟨ra, rc, rfl⟩ := h.r.shape
  obtain ⟨i0, hin, hz0, hz1, hz2⟩ := info_parts Tryz.infoFact
  have hnb := h.nb
  have hlb := h.lb
  have hmk : ∀ wx : World, (Instr.makeSlice 115 (.int .i64 N.length) (.int .i64 N.length)).run Tryz.prog wx = .ok (.slice (some ⟨wx.heap.size, 0, none⟩) N.length N.length) (wx.alloc (.cells (cellsF (padF [] N.length)).toArray 158)) := by
    intro wx
    have := run_make (P := Tryz.prog) wx 115 158 i0 _ Tryz.underlying115 hin hz0 .i64 .i64 N.length N.length (by omega) (by omega) (by rw [hz2]; omega) (by omega)
    rw [this, hz1, Int.toNat_natCast, made_facts]
  have HK := Hid.mk2 (fs_start h)
  have HA := Hid.mk2 (apart_new h (k := w.heap.size + 1) (by omega))
  have HN := Hid.mk2 hn
  have HX := Hid.mk2 hx
  clear h hn hx
  unfold polA
  go_enter Tryz.func59, Tryz.ntmps59
  go_wp2
  generalize (w.alloc (.cells #[.slice na N.length nc, .slice la ls.length lc, .slice ra rs.length rc] 84)).alloc (.cells (cellsF (padF [] N.length)).toArray 158) = w1 at HK ⊢
  generalize w.heap.size + 1 = fb at HK HA ⊢
  go_loopw [4] (fun vi wr => ∃ (i : Nat), i ≤ N.length ∧ vi = .int .i64 i ∧ (∀ j, FactIn (atF (factsP ls (N.take i)) j)) ∧ FsSt w wr (.slice na N.length nc) (.slice la ls.length lc) (.slice ra rs.length rc) fb (factsP ls (N.take i)) N ls rs) (fun i _ => 1000 - (intOf i).toNat)
  case atStart => exact ⟨0, Nat.zero_le _, rfl, fun j => by unfold factsP factsG atF; split <;> exact FactIn.none, HK.out⟩
  case round =>
    obtain ⟨i, hi, rfl, hfi, hk⟩ := hrel
    clear HK
    have HK := Hid.mk2 hk
    have hB := hk.bx.lt
    have hfbl := hk.row.lt
    have p0 := hk.bx.cell 0
    have p1 := hk.bx.cell 1
    simp only [List.getElem?_toArray, List.getElem?_cons_zero, List.getElem?_cons_succ] at p0 p1
    by_cases hlt : i < N.length
    · obtain ⟨g, o, cap, hcut, hcap, hg, hcl⟩ := hk.pa.n.pos (by omega)
      cases hcut
      have fc := fun j (hj : j < 6) u (hu : (cellN N[i])[j]? = some u) => hcl (i * 6 + j) u ((flat_get cellN 6 (fun _ => rfl) N i hlt j hj).trans hu)
      have hstep := factsG_take ls N i hlt
      have hgl : (factsP ls (N.take i)).length = i := by rw [factsP_length]; simp; omega
      obtain ⟨nd, hnd⟩ : ∃ nd, nd = N[i] := ⟨_, rfl⟩
      have hok := HN.out nd (by rw [hnd]; exact List.getElem_mem hlt)
      rw [← hnd] at fc hstep
      obtain ⟨gs, hgs⟩ : ∃ gs, factsP ls (N.take i) = gs := ⟨_, rfl⟩
      rw [hgs] at hstep hgl hfi HK
      have hfn := factN_in (ls := ls) hok.num hfi
      have HFI2 : Hid (∀ j, FactIn (atF (factsP ls (N.take (i + 1))) j)) := by rw [Hid, hstep]; exact atF_snoc_in hfi hfn
      have HFP : Hid (∀ j, FactIn (atF (padF gs N.length) j)) := fun j => by rw [atF_pad]; exact hfi j
      have HPD : Hid (factN ls (padF gs N.length) nd = factN ls gs nd) := factN_pad ls gs N.length nd
      have HPL : Hid ((padF gs N.length).length ≤ 401) := by rw [Hid, padF_len _ _ HK.out.le]; exact hnb
      have HST := Hid.mk2 hstep
      have HGL := Hid.mk2 hgl
      have HOK := Hid.mk2 hok
      have d0 : wr.cell? ⟨g, o + i * 6, none⟩ = some (.int .i64 (kindP nd.tok.text)) := fc 0 (by omega) _ rfl
      have d1 : wr.cell? ⟨g, o + i * 6 + 1, none⟩ = some (.int .i64 nd.tok.at') := by rw [Nat.add_assoc]; exact fc 1 (by omega) _ rfl
      have d2 : wr.cell? ⟨g, o + i * 6 + 2, none⟩ = some (.string (bsOf nd.tok.text)) := by rw [Nat.add_assoc]; exact fc 2 (by omega) _ rfl
      have d3 : wr.cell? ⟨g, o + i * 6 + 3, none⟩ = some (.int .i64 nd.ops) := by rw [Nat.add_assoc]; exact fc 3 (by omega) _ rfl
      have d4 : wr.cell? ⟨g, o + i * 6 + 4, none⟩ = some (.int .i64 nd.left) := by rw [Nat.add_assoc]; exact fc 4 (by omega) _ rfl
      have d5 : wr.cell? ⟨g, o + i * 6 + 5, none⟩ = some (.int .i64 nd.right) := by rw [Nat.add_assoc]; exact fc 5 (by omega) _ rfl
      clear hcl fc hk hfi hfn hstep hgl hok hnd hgs
      obtain ⟨f, hf⟩ : ∃ f, factN ls gs nd = f := ⟨_, rfl⟩
      have HF := Hid.mk2 hf
      clear hf
      go_upto_region 5 with fail
      go_region_with (go_at_call 83; refine (factOf_any nd HOK.out _ _ ls (padF gs N.length) _ (by first | with_reducible exact HK.out.dr.pa.l | with_reducible exact HK.out.pa.l) hlb HX.out (by first | with_reducible exact HK.out.dr.reads | with_reducible exact HK.out.reads) HPL.out HFP.out).mono ?_; rintro e w5 ⟨rfl, hb5⟩; rw [HPD.out, HF.out]; unfold factA; replace HK := Hid.mk2 (by first | with_reducible exact HK.out.dr.below hb5 | with_reducible exact HK.out.below hb5); clear hb5; have hfb5 := HK.out.row.lt; obtain ⟨x5, y5, z1, z2, z3, z4⟩ := HK.out.rowc hlt)
      all_goals
        go_wp2
        have HP := Hid.mk2 (HK.out.put HA.out HGL.out hlt f)
        go_roundw
        case rel => exact ⟨i + 1, by omega, by go_num, HFI2.out, by rw [HST.out, HF.out]; exact HP.out⟩
        case measure => simp [intOf]; omega
    · have hiN : i = N.length := by omega
      subst hiN
      rw [List.take_length] at hk
      have hrow := hk.row
      rw [show N.length = (factsP ls N).length from (factsP_length ls N).symm, padF_full] at hrow
      have HR := Hid.mk2 hrow
      have hhf := hk.hf
      clear hk hrow
      go_wp2
      go_ret
      exact ⟨HK.out.bl, fb, hhf, rfl, HR.out⟩
end Go.Proofs.YtnnbhebklnappaaGreatDoor
