/-
  The program's check: names of an EXPR.
-/
import Derived.Test.YtjjbmbjmdgoofaaGreatDoorB19
set_option linter.unusedVariables false
set_option linter.unusedSimpArgs false
namespace Go.Proofs.YtjjbmbjmdgoofaaGreatDoor
open Go.RowKit Go.Deep
def resN : Option Nat → Value
  | none => .tuple #[.bool true, .int .i64 0]
  | some p => .tuple #[.bool false, .int .i64 (p : Nat)]
def polA (nv lv rv : Value) : Value := .agg #[nv, lv, rv]
structure Chk2 (w wr : World) (nv lv rv : Value) (e : PExp) (N : List PNode) (ls : List PLet) (rs : List PRule) : Prop where
  bp : Blk wr w.heap.size #[nv, lv, rv] 77
  be : Blk wr (w.heap.size + 1) #[.int .i64 e.place, .int .i64 e.fr, .int .i64 e.behind] 118
  pa : PolAt wr nv lv rv N ls rs
  bl : Below w.heap.size w wr
theorem Chk2.below {w wr w' : World} {nv lv rv : Value} {e : PExp} {N : List PNode} {ls : List PLet} {rs : List PRule} (h : Chk2 w wr nv lv rv e N ls rs) (hb : Below wr.heap.size wr w') : Chk2 w w' nv lv rv e N ls rs :=
  ⟨h.bp.below hb h.bp.lt, h.be.below hb h.be.lt, h.pa.below hb, h.bl.trans (hb.mono h.bl.size)⟩
theorem chk2_start {w : World} {nv lv rv : Value} {e : PExp} {N : List PNode} {ls : List PLet} {rs : List PRule} (h : PolAt w nv lv rv N ls rs) : Chk2 w ((w.alloc (.cells #[nv, lv, rv] 77)).alloc (.cells #[.int .i64 e.place, .int .i64 e.fr, .int .i64 e.behind] 118)) nv lv rv e N ls rs := by
  have hb : Below w.heap.size w ((w.alloc (.cells #[nv, lv, rv] 77)).alloc (.cells #[.int .i64 e.place, .int .i64 e.fr, .int .i64 e.behind] 118)) := (new_below w _).alloc (by simp) _
  refine ⟨(Blk.new w _ _).alloc _, ?_, h.below hb, hb⟩
  have := Blk.new (w.alloc (.cells #[nv, lv, rv] 77)) #[.int .i64 e.place, .int .i64 e.fr, .int .i64 e.behind] 118
  simpa using this
theorem seg_at (N : List PNode) (i b : Nat) (h1 : i < b) (h2 : i < N.length) : (N.drop i).take (b - i) = N[i] :: (N.drop (i + 1)).take (b - (i + 1)) := by
  rw [List.drop_eq_getElem_cons h2, show b - i = (b - (i + 1)) + 1 by omega, List.take_succ_cons]
theorem seg_none (N : List PNode) (i b : Nat) (h : b ≤ i) : (N.drop i).take (b - i) = [] := by
  rw [show b - i = 0 by omega, List.take_zero]
set_option maxHeartbeats 1000000 in
set_option maxRecDepth 100000 in
theorem namesOf_any (nv lv rv : Value) (e : PExp) (ahead : Nat) (N : List PNode) (ls : List PLet) (rs : List PRule) (w : World) (h : PolAt w nv lv rv N ls rs) (hm : ∀ n ∈ N, mayT n.tok.text = true) (he1 : e.fr ≤ e.behind) (he2 : e.behind ≤ N.length) (ha : ahead ≤ 401) :
    Calls Tryz.prog 118 #[polA nv lv rv, expA e, .int .i64 ahead] w fun e' w' => e' = .returned (resN (namesE ls ahead (segE N e))) ∧ Below w.heap.size w w' := by
  obtain ⟨na, nc, rfl⟩ := h.n.shape
  obtain ⟨la, lc, rfl⟩ := h.l.shape
  obtain ⟨ra, rc, rfl⟩ := h.r.shape
  have hnb := h.nb
  have hlb := h.lb
  have hrb := h.rb
  have HC := hideP (chk2_start (e := e) h)
  have HM := hideP hm
  clear h hm
  unfold polA expA
  go_enter Tryz.func118, Tryz.ntmps118
  go_wp2
  go_loopw [8] (fun vi wr => ∃ i : Nat, e.fr ≤ i ∧ i ≤ e.behind ∧ vi = .int .i64 i ∧ Chk2 w wr (.slice na N.length nc) (.slice la ls.length lc) (.slice ra rs.length rc) e N ls rs ∧ namesE ls ahead (segE N e) = namesE ls ahead ((N.drop i).take (e.behind - i))) (fun i _ => 1000 - (intOf i).toNat)
  case atStart => exact ⟨e.fr, Nat.le_refl _, he1, rfl, HC.out, rfl⟩
  case round =>
    obtain ⟨i, hi1, hi2, rfl, hc, hgo⟩ := hrel
    clear HC
    have HC := hideP hc
    have HGO := hideP hgo
    have hB := hc.bp.lt
    have hB2 := hc.be.lt
    have p0 := hc.bp.cell 0
    have p1 := hc.bp.cell 1
    have e2 := hc.be.cell 2
    simp only [List.getElem?_toArray, List.getElem?_cons_zero, List.getElem?_cons_succ] at p0 p1 e2
    clear hc hgo
    by_cases hlt : i < e.behind
    · have hiN : i < N.length := by omega
      obtain ⟨g, o, cap, hcut, hcap, hg, hcl⟩ := HC.out.pa.n.pos (by omega)
      cases hcut
      have d0 := hcl (i * 6 + 0) _ (flat_get cellN 6 (fun _ => rfl) N i hiN 0 (by omega))
      have d1 := hcl (i * 6 + 1) _ (flat_get cellN 6 (fun _ => rfl) N i hiN 1 (by omega))
      have d2 := hcl (i * 6 + 2) _ (flat_get cellN 6 (fun _ => rfl) N i hiN 2 (by omega))
      have hseg := seg_at N i e.behind hlt hiN
      have HSG : Hid (namesE ls ahead (segE N e) = if nameT N[i].tok.text && decide (ahead ≤ letIx ls N[i].tok.text) then some N[i].tok.at' else namesE ls ahead ((N.drop (i + 1)).take (e.behind - (i + 1)))) := by
        rw [Hid, HGO.out, hseg]; rfl
      have hmi := HM.out N[i] (List.getElem_mem hiN)
      have K := kindOf _ hmi
      obtain ⟨tk, htk⟩ : ∃ tk, tk = N[i].tok := ⟨_, rfl⟩
      rw [← htk] at HSG K
      have f0 : wr.cell? ⟨g, o + i * 6, none⟩ = some (.int .i64 (kindP tk.text)) := by rw [htk]; exact d0
      have f1 : wr.cell? ⟨g, o + i * 6 + 1, none⟩ = some (.int .i64 tk.at') := by rw [htk, Nat.add_assoc]; exact d1
      have f2 : wr.cell? ⟨g, o + i * 6 + 2, none⟩ = some (.string (bsOf tk.text)) := by rw [htk, Nat.add_assoc]; exact d2
      have hix := letIx_le ls tk.text
      have HIX := hideP hix
      clear d0 d1 d2 hcl hseg hmi htk HGO
      have HB4 := hideP (HC.out.below (new_below wr (.cells #[.int .i64 (kindP tk.text), .int .i64 tk.at', .string (bsOf tk.text)] 114)))
      by_cases hk : kindP tk.text = 2
      · have hk' : ((kindP tk.text : Int) == 2) = true := by rw [hk]; rfl
        have hnm : nameT tk.text = true := K.kname.1 hk
        have HNM := hideP hnm
        obtain ⟨ix, hixe⟩ : ∃ ix, ix = letIx ls tk.text := ⟨_, rfl⟩
        have HIE : Hid (letIx ls (bsOf tk.text).toList = ix) := by rw [Hid, bsOf_toList, hixe]
        rw [← hixe] at HSG hix
        clear K hk hnm hixe HIX
        by_cases hge : ahead ≤ ix
        · have hge' : decide ((ahead : Int) ≤ (ix : Int)) = true := by simp; omega
          go_wp2_with (go_at_call 117; refine (LetOf_any ls _ (bsOf tk.text) _ HB4.out.pa.l hlb).mono ?_; rintro e' w4 ⟨rfl, rfl⟩; rw [HIE.out])
          go_quiet (fail)
          go_wp2
          go_ret2
          exact ⟨by rw [HSG.out, HNM.out, decide_eq_true hge]; rfl, below_drewN HB4.out.bl _⟩
        · have hge' : decide ((ahead : Int) ≤ (ix : Int)) = false := by simp; omega
          have hgd : decide (ahead ≤ ix) = false := by simpa using hge
          have HGD := hideP hgd
          clear hgd
          go_wp2_with (go_at_call 117; refine (LetOf_any ls _ (bsOf tk.text) _ HB4.out.pa.l hlb).mono ?_; rintro e' w4 ⟨rfl, rfl⟩; rw [HIE.out])
          go_roundw
          case rel => exact ⟨i + 1, by omega, by omega, by go_num, HB4.out, by rw [HSG.out, HGD.out]; simp⟩
          case measure => simp [intOf]; omega
      · have hk' : ((kindP tk.text : Int) == 2) = false := by simp; omega
        have hnm : nameT tk.text = false := by
          cases hx : nameT tk.text
          · rfl
          · exact absurd (K.kname.2 hx) hk
        have HNM := hideP hnm
        clear K hnm
        go_wp2
        go_roundw
        case rel => exact ⟨i + 1, by omega, by omega, by go_num, HB4.out, by rw [HSG.out, HNM.out]; simp⟩
        case measure => simp [intOf]; omega
    · have hsn := seg_none N i e.behind (by omega)
      have HRES : Hid (namesE ls ahead (segE N e) = none) := by rw [Hid, HGO.out, hsn]; rfl
      clear hsn HGO
      go_wp2
      go_ret2
      exact ⟨by rw [HRES.out]; rfl, HC.out.bl⟩
end Go.Proofs.YtjjbmbjmdgoofaaGreatDoor
