/-
  The program's check: the parts of a node and of an EXPR.
-/
import Derived.Test.YtjjbmbjmdgoofaaGreatDoorB24
import Derived.Test.YtjjbmbjmdgoofaaGreatDoorB07
set_option linter.unusedVariables false
set_option linter.unusedSimpArgs false
namespace Go.Proofs.YtjjbmbjmdgoofaaGreatDoor
open Go.RowKit Go.Deep
structure PtAt (w : World) (kb : Nat) (nv lv rv : Value) (sz : List Nat) (N : List PNode) (ls : List PLet) (rs : List PRule) : Prop where
  row : Blk w kb (cellsK (padK sz ls.length)).toArray 3
  pa : PolAt w nv lv rv N ls rs
  le : sz.length ≤ ls.length
  bd : ∀ s ∈ sz, s ≤ 150 * sz.length + 1
theorem PtAt.below {w w' : World} {kb : Nat} {nv lv rv : Value} {sz : List Nat} {N : List PNode} {ls : List PLet} {rs : List PRule} (h : PtAt w kb nv lv rv sz N ls rs) (hb : Below w.heap.size w w') : PtAt w' kb nv lv rv sz N ls rs :=
  ⟨h.row.below hb h.row.lt, h.pa.below hb, h.le, h.bd⟩
theorem PtAt.reads {w : World} {kb : Nat} {nv lv rv : Value} {sz : List Nat} {N : List PNode} {ls : List PLet} {rs : List PRule} (h : PtAt w kb nv lv rv sz N ls rs) : Reads w (.slice (some ⟨kb, 0, none⟩) ls.length ls.length) (padK sz ls.length).length (cellsK (padK sz ls.length)) := by
  refine .inr ⟨kb, 0, ls.length, by rw [padK_len _ _ h.le], by rw [padK_len _ _ h.le]; exact Nat.le_refl _, h.row.lt, fun j u hj => ?_⟩
  rw [Nat.zero_add, h.row.cell]
  simpa using hj
theorem at_pt {w : World} {kb : Nat} {nv lv rv : Value} {sz : List Nat} {N : List PNode} {ls : List PLet} {rs : List PRule} (h : PtAt w kb nv lv rv sz N ls rs) (i : Nat) (hi : i ≤ 1000) :
    Calls Tryz.prog 157 #[.slice (some ⟨kb, 0, none⟩) ls.length ls.length, .int .i64 i] w fun e w' => e = .returned (.int .i64 (sz.getD i 0 : Nat)) ∧ w' = w := by
  have hl := padK_len _ _ h.le
  have := at_any (padK sz ls.length) (.slice (some ⟨kb, 0, none⟩) ls.length ls.length) i w h.reads (by rw [hl]; exact h.pa.lb) ⟨by omega, by omega⟩
  have e : atN (padK sz ls.length) i = sz.getD i 0 := by rw [atN_nat, padK_get]
  rw [e] at this
  exact this
theorem getD_le {l : List Nat} {M i : Nat} (h : ∀ s ∈ l, s ≤ M) : l.getD i 0 ≤ M := by
  rw [List.getD_eq_getElem?_getD]
  cases hx : l[i]? with
  | none => exact Nat.zero_le _
  | some s => exact h s (List.mem_of_getElem? hx)
theorem partNode_le {ls : List PLet} {sz : List Nat} {M : Nat} (h : ∀ s ∈ sz, s ≤ M) (h1 : 1 ≤ M) (t : RTok) : partNode ls sz t ≤ M := by
  unfold partNode; split
  · exact getD_le h
  · exact h1
theorem countGo_le {ls : List PLet} {sz : List Nat} {M : Nat} (h : ∀ s ∈ sz, s ≤ M) (h1 : 1 ≤ M) : ∀ (l : List PNode) (c : Nat), c ≤ 150 + M → countGo ls sz c l ≤ 150 + M
  | [], c, hc => hc
  | n :: r, c, hc => by
    rw [countGo]
    split
    · have := partNode_le (ls := ls) h h1 n.tok
      exact countGo_le h h1 r _ (by omega)
    · exact hc
theorem sum_wrap (a b : Nat) (h : a + b < 1000000000) : Value.int .i64 (IntKind.i64.wrap ((a : Int) + (b : Int))) = Value.int .i64 ((a + b : Nat) : Int) := by
  rw [IntWalk.i64_in _ ⟨by omega, by omega⟩]; rfl
def tokV (t : RTok) : Value := .agg #[.int .i64 (kindP t.text), .int .i64 t.at', .string (bsOf t.text)]
set_option maxHeartbeats 1000000 in
theorem partsOfNode_any {w : World} {kb : Nat} {nv lv rv : Value} {sz : List Nat} {N : List PNode} {ls : List PLet} {rs : List PRule} (h : PtAt w kb nv lv rv sz N ls rs) (t : RTok) :
    Calls Tryz.prog 145 #[polA nv lv rv, tokV t, .slice (some ⟨kb, 0, none⟩) ls.length ls.length] w fun e' w' => e' = .returned (.int .i64 (partNode ls sz t : Nat)) ∧ Below w.heap.size w w' := by
  obtain ⟨la, lc, rfl⟩ := h.pa.l.shape
  have hlb := h.pa.lb
  have hb : Below w.heap.size w ((w.alloc (.cells #[nv, .slice la ls.length lc, rv] 77)).alloc (.cells #[.int .i64 (kindP t.text), .int .i64 t.at', .string (bsOf t.text)] 114)) := (new_below w _).alloc (by simp) _
  have HP := hideP (h.below hb)
  have HB := hideP hb
  have hle := letIx_le ls t.text
  obtain ⟨ix, hix⟩ : ∃ ix, letIx ls t.text = ix := ⟨_, rfl⟩
  have HIE : Hid (letIx ls (bsOf t.text).toList = ix) := by rw [Hid, bsOf_toList, hix]
  have HPN : Hid (partNode ls sz t = if kindP t.text = 2 then sz.getD ix 0 else 1) := by rw [Hid, partNode, hix]
  rw [hix] at hle
  have hix2 : ix ≤ 1000 := by omega
  clear h hb hix
  unfold polA tokV
  by_cases hk : kindP t.text = 2
  · have hk' : ((kindP t.text : Int) != 2) = false := by rw [hk]; rfl
    rw [HPN.out, if_pos hk]
    clear HPN hk
    go_enter Tryz.func145, Tryz.ntmps145
    go_wp2_with (first | (go_at_call 117; refine (LetOf_any ls _ (bsOf t.text) _ HP.out.pa.l hlb).mono ?_; rintro e' w4 ⟨rfl, rfl⟩; rw [HIE.out]) | (go_at_call 157; refine (at_pt HP.out ix hix2).mono ?_; rintro e' w5 ⟨rfl, rfl⟩))
    go_ret
    exact ⟨rfl, HB.out⟩
  · have hk' : ((kindP t.text : Int) != 2) = true := by simp; omega
    rw [HPN.out, if_neg hk]
    clear HPN
    go_enter Tryz.func145, Tryz.ntmps145
    go_wp2
    go_ret
    exact ⟨rfl, HB.out⟩
structure PtW (w wr : World) (kb : Nat) (nv lv rv : Value) (sz : List Nat) (e : PExp) (N : List PNode) (ls : List PLet) (rs : List PRule) : Prop where
  c : Chk2 w wr nv lv rv e N ls rs
  p : PtAt wr kb nv lv rv sz N ls rs
theorem PtW.below {w wr w' : World} {kb : Nat} {nv lv rv : Value} {sz : List Nat} {e : PExp} {N : List PNode} {ls : List PLet} {rs : List PRule} (h : PtW w wr kb nv lv rv sz e N ls rs) (hb : Below wr.heap.size wr w') : PtW w w' kb nv lv rv sz e N ls rs := ⟨h.c.below hb, h.p.below hb⟩
theorem PtW.drew {w wr : World} {kb : Nat} {nv lv rv : Value} {sz : List Nat} {e : PExp} {N : List PNode} {ls : List PLet} {rs : List PRule} (h : PtW w wr kb nv lv rv sz e N ls rs) : PtW w wr.drew kb nv lv rv sz e N ls rs := h.below (below_drewN (Below.refl _ wr) 1)
theorem PtW.node3 {w wr : World} {kb : Nat} {na : Option Addr} {nc : Nat} {lv rv : Value} {sz : List Nat} {e : PExp} {N : List PNode} {ls : List PLet} {rs : List PRule} (h : PtW w wr kb (.slice na N.length nc) lv rv sz e N ls rs) {i : Nat} (hi : i < N.length) {tk : RTok} (ht : N[i].tok = tk) : ∃ g o, na = some ⟨g, o, none⟩ ∧ g < wr.heap.size ∧ N.length ≤ nc ∧
    wr.cell? ⟨g, o + i * 6, none⟩ = some (.int .i64 (kindP tk.text)) ∧ wr.cell? ⟨g, o + i * 6 + 1, none⟩ = some (.int .i64 tk.at') ∧ wr.cell? ⟨g, o + i * 6 + 2, none⟩ = some (.string (bsOf tk.text)) := by
  subst ht
  obtain ⟨g, o, cap, hcut, hcap, hg, hc⟩ := h.p.pa.n.pos (by omega)
  cases hcut
  have f := fun j (hj : j < 6) u (hu : (cellN N[i])[j]? = some u) => hc (i * 6 + j) u ((flat_get cellN 6 (fun _ => rfl) N i hi j hj).trans hu)
  refine ⟨g, o, rfl, hg, hcap, f 0 (by omega) _ rfl, ?_, ?_⟩
  · rw [Nat.add_assoc]; exact f 1 (by omega) _ rfl
  · rw [Nat.add_assoc]; exact f 2 (by omega) _ rfl
set_option maxHeartbeats 4000000 in
set_option maxRecDepth 100000 in
theorem partsOf_any {w : World} {kb : Nat} {nv lv rv : Value} {sz : List Nat} {N : List PNode} {ls : List PLet} {rs : List PRule} (h : PtAt w kb nv lv rv sz N ls rs) (e : PExp) (he : ExpOk N e) :
    Calls Tryz.prog 121 #[polA nv lv rv, expA e, .slice (some ⟨kb, 0, none⟩) ls.length ls.length] w fun e' w' => e' = .returned (.int .i64 (countGo ls sz 0 (segE N e) : Nat)) ∧ Below w.heap.size w w' := by
  obtain ⟨na, nc, rfl⟩ := h.pa.n.shape
  obtain ⟨la, lc, rfl⟩ := h.pa.l.shape
  obtain ⟨ra, rc, rfl⟩ := h.pa.r.shape
  have hnb := h.pa.nb
  have hlb := h.pa.lb
  have hrb := h.pa.rb
  have hc0 := chk2_start (e := e) h.pa
  have HC := hideP (PtW.mk hc0 (h.below (hc0.bl)))
  have hbd : ∀ s ∈ sz, s ≤ 60151 := fun s hs => by have := h.bd s hs; have := h.le; omega
  have HBD := hideP hbd
  obtain ⟨he1, he2⟩ := he
  clear h hc0 hbd
  unfold polA expA
  go_enter Tryz.func121, Tryz.ntmps121
  go_wp2
  go_loopw [7, 8] (fun vc vi wr => ∃ c i : Nat, e.fr ≤ i ∧ i ≤ e.behind ∧ c ≤ 60301 ∧ vc = .int .i64 c ∧ vi = .int .i64 i ∧ PtW w wr kb (.slice na N.length nc) (.slice la ls.length lc) (.slice ra rs.length rc) sz e N ls rs ∧ countGo ls sz 0 (segE N e) = countGo ls sz c ((N.drop i).take (e.behind - i))) (fun _ i _ => 1000 - (intOf i).toNat)
  case atStart => exact ⟨0, e.fr, Nat.le_refl _, he1, by omega, rfl, rfl, HC.out, rfl⟩
  case round =>
    obtain ⟨c, i, hi1, hi2, hcb, rfl, rfl, hc, hgo⟩ := hrel
    clear HC
    have HC := hideP hc
    have HGO := hideP hgo
    have hB := hc.c.bp.lt
    have hB2 := hc.c.be.lt
    have p0 := hc.c.bp.cell 0
    have p1 := hc.c.bp.cell 1
    have p2 := hc.c.bp.cell 2
    have e2 := hc.c.be.cell 2
    simp only [List.getElem?_toArray, List.getElem?_cons_zero, List.getElem?_cons_succ] at p0 p1 p2 e2
    clear hc hgo
    by_cases hlt : i < e.behind
    · have hiN : i < N.length := by omega
      have hseg := seg_at N i e.behind hlt hiN
      obtain ⟨tk, htk⟩ : ∃ tk, N[i].tok = tk := ⟨_, rfl⟩
      obtain ⟨g, o, rfl, hg, hcap, d0, d1, d2⟩ := HC.out.node3 hiN htk
      by_cases hc : c ≤ 150
      · have HSG : Hid (countGo ls sz 0 (segE N e) = countGo ls sz (c + partNode ls sz tk) ((N.drop (i + 1)).take (e.behind - (i + 1)))) := by
          rw [Hid, HGO.out, hseg, countGo, if_pos hc, htk]
        have hpn := partNode_le (ls := ls) HBD.out (by omega) tk
        obtain ⟨pn, hpne⟩ : ∃ pn, partNode ls sz tk = pn := ⟨_, rfl⟩
        have HPE := hideP hpne
        rw [hpne] at HSG hpn
        have HTK := hideP htk
        have hc' : decide ((c : Int) ≤ 150) = true := by simp; omega
        clear hseg htk hpne HGO
        go_wp2
        go_region_held3 (fun w' => w'.cell? ⟨w.heap.size, 0, none⟩ = some (.slice (some ⟨g, o, none⟩) N.length nc) ∧ w'.cell? ⟨w.heap.size, 1, none⟩ = some (.slice la ls.length lc) ∧ w'.cell? ⟨w.heap.size, 2, none⟩ = some (.slice ra rs.length rc) ∧ w'.cell? ⟨g, o + i * 6, none⟩ = some (.int .i64 (kindP tk.text)) ∧ w'.cell? ⟨g, o + i * 6 + 1, none⟩ = some (.int .i64 tk.at') ∧ w'.cell? ⟨g, o + i * 6 + 2, none⟩ = some (.string (bsOf tk.text))) (go_keep) ((go_at_call 145; refine (partsOfNode_any HC.out.drew.p tk).mono ?_; rintro e' w5 ⟨rfl, hb5⟩; rw [HPE.out]; replace HC := hideP (HC.out.drew.below hb5); clear hb5; have p0' := HC.out.c.bp.cell 0; have p1' := HC.out.c.bp.cell 1; have p2' := HC.out.c.bp.cell 2; obtain ⟨g', o', he', hg', _, c0, c1, c2⟩ := HC.out.node3 hiN HTK.out; cases he'))
        go_wp2
        go_roundw
        case rel => exact ⟨c + pn, i + 1, by omega, by omega, by omega, sum_wrap c pn (by omega), by go_num, HC.out, HSG.out⟩
        case measure => simp [intOf]; omega
      · have HRES : Hid (countGo ls sz 0 (segE N e) = c) := by rw [Hid, HGO.out, hseg, countGo, if_neg hc]
        have hc' : decide ((c : Int) ≤ 150) = false := by simp; omega
        clear hseg htk HGO
        go_wp2
        go_ret
        exact ⟨ret_int (by rw [HRES.out]), HC.out.c.bl⟩
    · have HRES : Hid (countGo ls sz 0 (segE N e) = c) := by rw [Hid, HGO.out, seg_none N i e.behind (by omega)]; rfl
      clear HGO
      go_wp2
      go_ret
      exact ⟨ret_int (by rw [HRES.out]), HC.out.c.bl⟩
end Go.Proofs.YtjjbmbjmdgoofaaGreatDoor
