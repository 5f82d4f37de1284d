/-
  The program's check: kinds of values: its small functions.
-/
import Derived.Test.YtjjbmbjmdgoofaaGreatDoorB21
set_option linter.unusedVariables false
set_option linter.unusedSimpArgs false
namespace Go.Proofs.YtjjbmbjmdgoofaaGreatDoor
open Go.RowKit Go.Deep
set_option maxHeartbeats 1000000 in
theorem kindOfSingle_any (k : Nat) (w : World) :
    Calls Tryz.prog 161 #[.int .i64 k] w fun e w' => e = .returned (.int .i64 (kindOne k : Nat)) ∧ w' = w := by
  go_enter Tryz.func161, Tryz.ntmps161
  go_wp2
  all_goals go_ret
  all_goals exact ⟨ret_int (by simp at *; unfold kindOne; (repeat' split) <;> omega), rfl⟩
set_option maxHeartbeats 1000000 in
theorem kindOfOne_any (k a : Nat) (w : World) :
    Calls Tryz.prog 158 #[.int .i64 k, .int .i64 a] w fun e w' => e = .returned (.int .i64 (kindUn k a : Nat)) ∧ w' = w := by
  go_enter Tryz.func158, Tryz.ntmps158
  go_wp2
  all_goals go_ret
  all_goals exact ⟨ret_int (by (try simp at *); unfold kindUn; (repeat' split) <;> omega), rfl⟩
set_option maxHeartbeats 1000000 in
theorem kindOfTwo_any (k a b : Nat) (w : World) :
    Calls Tryz.prog 159 #[.int .i64 k, .int .i64 a, .int .i64 b] w fun e w' => e = .returned (.int .i64 (kindBin k a b : Nat)) ∧ w' = w := by
  go_enter Tryz.func159, Tryz.ntmps159
  go_wp2
  all_goals go_ret
  all_goals exact ⟨ret_int (by simp at *; unfold kindBin; (repeat' split) <;> omega), rfl⟩
def padK (ks : List Nat) (n : Nat) : List Nat := ks ++ List.replicate (n - ks.length) 0
theorem padK_len (ks : List Nat) (n : Nat) (h : ks.length ≤ n) : (padK ks n).length = n := by simp [padK]; omega
theorem padK_get (ks : List Nat) (n i : Nat) : (padK ks n).getD i 0 = ks.getD i 0 := by
  unfold padK
  simp only [List.getD_eq_getElem?_getD]
  by_cases h : i < ks.length
  · rw [List.getElem?_append_left h]
  · rw [List.getElem?_append_right (by omega), List.getElem?_eq_none (l := ks) (by omega), List.getElem?_replicate]
    split <;> rfl
theorem padK_set (ks : List Nat) (n x : Nat) (h : ks.length < n) : (padK ks n).set ks.length x = padK (ks ++ [x]) n := by
  unfold padK
  rw [List.set_append_right _ _ (Nat.le_refl _), Nat.sub_self, show n - ks.length = (n - (ks.length + 1)) + 1 by omega, List.replicate_succ, List.set_cons_zero]
  simp
structure LkAt (w : World) (B kb : Nat) (nv lv rv : Value) (ks : List Nat) (f : Option Nat) (N : List PNode) (ls : List PLet) (rs : List PRule) : Prop where
  blk : Blk w B #[nv, lv, rv, .slice (some ⟨kb, 0, none⟩) N.length N.length, .bool f.isSome, .int .i64 (f.getD 0 : Nat)] 189
  row : Blk w kb (cellsK (padK ks N.length)).toArray 3
  pa : PolAt w nv lv rv N ls rs
  ne : kb ≠ B
  le : ks.length ≤ N.length
theorem LkAt.below {w w' : World} {B kb : Nat} {nv lv rv : Value} {ks : List Nat} {f : Option Nat} {N : List PNode} {ls : List PLet} {rs : List PRule} (h : LkAt w B kb nv lv rv ks f N ls rs) (hb : Below w.heap.size w w') : LkAt w' B kb nv lv rv ks f N ls rs :=
  ⟨h.blk.below hb h.blk.lt, h.row.below hb h.row.lt, h.pa.below hb, h.ne, h.le⟩
theorem LkAt.drewN {w : World} {B kb : Nat} {nv lv rv : Value} {ks : List Nat} {f : Option Nat} {N : List PNode} {ls : List PLet} {rs : List PRule} (h : LkAt w B kb nv lv rv ks f N ls rs) (n : Nat) : LkAt (w.drewN n) B kb nv lv rv ks f N ls rs := h.below (below_drewN (Below.refl _ w) n)
theorem LkAt.reads {w : World} {B kb : Nat} {nv lv rv : Value} {ks : List Nat} {f : Option Nat} {N : List PNode} {ls : List PLet} {rs : List PRule} (h : LkAt w B kb nv lv rv ks f N ls rs) : Reads w (.slice (some ⟨kb, 0, none⟩) N.length N.length) (padK ks N.length).length (cellsK (padK ks N.length)) := by
  refine .inr ⟨kb, 0, N.length, by rw [padK_len _ _ h.le], by rw [padK_len _ _ h.le]; exact Nat.le_refl _, h.row.lt, fun j u hj => ?_⟩
  rw [Nat.zero_add, h.row.cell]
  simpa using hj
theorem at_lk {w : World} {B kb : Nat} {nv lv rv : Value} {ks : List Nat} {f : Option Nat} {N : List PNode} {ls : List PLet} {rs : List PRule} (h : LkAt w B kb nv lv rv ks f N ls rs) (i : Int) (hi : -2 ≤ i ∧ i ≤ 1000) :
    Calls Tryz.prog 157 #[.slice (some ⟨kb, 0, none⟩) N.length N.length, .int .i64 i] w fun e w' => e = .returned (.int .i64 (atN ks i : Nat)) ∧ w' = w := by
  have hl := padK_len _ _ h.le
  have := at_any (padK ks N.length) (.slice (some ⟨kb, 0, none⟩) N.length N.length) i w h.reads (by rw [hl]; exact h.pa.nb) hi
  have e : atN (padK ks N.length) i = atN ks i := by
    unfold atN
    split
    · rfl
    · exact padK_get _ _ _
  rw [e] at this
  exact this
theorem atN_kind (ks : List Nat) (e : PExp) (h : 1 ≤ e.behind) : atN ks ((e.behind : Int) - 1) = kindAt ks e := by
  rw [show ((e.behind : Int) - 1) = ((e.behind - 1 : Nat) : Int) by omega, atN_nat]; rfl
set_option maxHeartbeats 1000000 in
theorem kindOf_any {w : World} {B kb : Nat} {nv lv rv : Value} {ks : List Nat} {f : Option Nat} {N : List PNode} {ls : List PLet} {rs : List PRule} (h : LkAt w B kb nv lv rv ks f N ls rs) (e : PExp) (he : 1 ≤ e.behind ∧ e.behind ≤ 401) :
    Calls Tryz.prog 144 #[.pointer (some ⟨B, 0, none⟩), expA e] w fun e' w' => e' = .returned (.int .i64 (kindAt ks e : Nat)) ∧ Below w.heap.size w w' := by
  have HL := hideP (h.below (new_below w (.cells #[.int .i64 e.place, .int .i64 e.fr, .int .i64 e.behind] 118)))
  have hB := h.blk.lt
  have c3 := h.blk.cell 3
  simp only [List.getElem?_toArray, List.getElem?_cons_zero, List.getElem?_cons_succ] at c3
  have HAT := hideP (atN_kind ks e he.1)
  clear h
  unfold expA
  obtain ⟨he1, he2⟩ := he
  go_enter Tryz.func144, Tryz.ntmps144
  go_wp2
  go_quiet ((go_at_call 157; exact Calls.quiet_of_same (at_lk (HL.out.drewN _) _ ⟨by omega, by omega⟩)))
  go_wp2
  go_ret
  exact ⟨ret_int (by rw [HAT.out]), below_drewN (new_below w _) _⟩
end Go.Proofs.YtjjbmbjmdgoofaaGreatDoor
namespace Go.Proofs.YtjjbmbjmdgoofaaGreatDoor
open Go.RowKit Go.Deep
theorem Blk.drewM {w : World} {b : Nat} {cs : Array Value} {t : TypeId} (h : Blk w b cs t) (n : Nat) : Blk (w.drewN n) b cs t := h
def nameK (ls : List PLet) (ks : List Nat) (t : Txt) : Nat := match ls[letIx ls t]? with
  | some p => kindAt ks p.val
  | none => 0
set_option maxHeartbeats 1000000 in
theorem kindOfName_any {w : World} {B kb : Nat} {nv lv rv : Value} {ks : List Nat} {f : Option Nat} {N : List PNode} {ls : List PLet} {rs : List PRule} (h : LkAt w B kb nv lv rv ks f N ls rs) (d : ByteArray) (hx : ∀ p ∈ ls, 1 ≤ p.val.behind ∧ p.val.behind ≤ 401) :
    Calls Tryz.prog 160 #[.pointer (some ⟨B, 0, none⟩), .string d] w fun e' w' => e' = .returned (.int .i64 (nameK ls ks d.toList : Nat)) ∧ Below w.heap.size w w' := by
  obtain ⟨la, lc, rfl⟩ := h.pa.l.shape
  have hlb := h.pa.lb
  have HL := hideP h
  have hB := h.blk.lt
  have c1 := h.blk.cell 1
  simp only [List.getElem?_toArray, List.getElem?_cons_zero, List.getElem?_cons_succ] at c1
  have hle := letIx_le ls d.toList
  by_cases hlt : letIx ls d.toList < ls.length
  · obtain ⟨g, o, cap, hcut, hcap, hg, hc⟩ := h.pa.l.pos (by omega)
    cases hcut
    have fc := fun j (hj : j < 6) u (hu : (cellL ls[letIx ls d.toList])[j]? = some u) => hc (letIx ls d.toList * 6 + j) u ((flat_get cellL 6 (fun _ => rfl) ls _ hlt j hj).trans hu)
    obtain ⟨pl, hpl⟩ : ∃ pl, pl = ls[letIx ls d.toList] := ⟨_, rfl⟩
    have hbe := hx pl (by rw [hpl]; exact List.getElem_mem hlt)
    have HNK : Hid (nameK ls ks d.toList = kindAt ks pl.val) := by rw [Hid, nameK, List.getElem?_eq_getElem hlt, hpl]
    rw [← hpl] at fc
    obtain ⟨ix, hix⟩ : ∃ ix, letIx ls d.toList = ix := ⟨_, rfl⟩
    have HIX := hideP hix
    rw [hix] at fc hlt
    have d3 : w.cell? ⟨g, o + ix * 6 + 3, none⟩ = some (.int .i64 pl.val.place) := by rw [Nat.add_assoc]; exact fc 3 (by omega) _ rfl
    have d4 : w.cell? ⟨g, o + ix * 6 + 4, none⟩ = some (.int .i64 pl.val.fr) := by rw [Nat.add_assoc]; exact fc 4 (by omega) _ rfl
    have d5 : w.cell? ⟨g, o + ix * 6 + 5, none⟩ = some (.int .i64 pl.val.behind) := by rw [Nat.add_assoc]; exact fc 5 (by omega) _ rfl
    clear fc hpl hc h hx hle hix
    rw [HNK.out]
    go_enter Tryz.func160, Tryz.ntmps160
    go_wp2_with (first | (go_at_call 117; refine (LetOf_any ls _ d _ HL.out.pa.l hlb).mono ?_; rintro e' w4 ⟨rfl, rfl⟩; rw [HIX.out]) | (go_at_call 144; refine (kindOf_any HL.out pl.val hbe).mono ?_; rintro e' w5 ⟨rfl, hb5⟩))
    go_ret
    exact ⟨rfl, hb5⟩
  · have hix : letIx ls d.toList = ls.length := by omega
    have HIX := hideP hix
    have HNK : Hid (nameK ls ks d.toList = 0) := by rw [Hid, nameK, List.getElem?_eq_none (by omega)]
    clear hx hle hix h
    rw [HNK.out]
    go_enter Tryz.func160, Tryz.ntmps160
    go_wp2_with (go_at_call 117; refine (LetOf_any ls _ d _ HL.out.pa.l hlb).mono ?_; rintro e' w4 ⟨rfl, rfl⟩; rw [HIX.out])
    go_ret
    exact ⟨rfl, Below.refl _ _⟩
theorem nodeK_name (ls : List PLet) (ks : List Nat) (n : PNode) (h1 : n.ops ≠ 1) (h2 : n.ops ≠ 2) (hk : kindP n.tok.text = 2) : nodeK ls ks n = nameK ls ks n.tok.text := by
  unfold nodeK nameK
  rw [if_neg h1, if_neg h2, if_pos hk]
  cases ls[letIx ls n.tok.text]? <;> rfl
set_option maxHeartbeats 1000000 in
set_option maxRecDepth 100000 in
theorem kindOfNode_any {w : World} {B kb : Nat} {nv lv rv : Value} {ks : List Nat} {f : Option Nat} {N : List PNode} {ls : List PLet} {rs : List PRule} (h : LkAt w B kb nv lv rv ks f N ls rs) (n : PNode) (hn : n.left ≤ 1000 ∧ n.right ≤ 1000) (hx : ∀ p ∈ ls, 1 ≤ p.val.behind ∧ p.val.behind ≤ 401) :
    Calls Tryz.prog 142 #[.pointer (some ⟨B, 0, none⟩), nodA n] w fun e' w' => e' = .returned (.int .i64 (nodeK ls ks n : Nat)) ∧ Below w.heap.size w w' := by
  have HL := hideP (h.below (new_below w (.cells #[.int .i64 (kindP n.tok.text), .int .i64 n.tok.at', .string (bsOf n.tok.text), .int .i64 n.ops, .int .i64 n.left, .int .i64 n.right] 162)))
  have hB := h.blk.lt
  have c3 := h.blk.cell 3
  simp only [List.getElem?_toArray, List.getElem?_cons_zero, List.getElem?_cons_succ] at c3
  have HX := hideP hx
  obtain ⟨hn1, hn2⟩ := hn
  clear h hx
  unfold nodA
  by_cases h1 : n.ops = 1
  · have e1 : ((n.ops : Int) == 1) = true := by simp; omega
    have HK : Hid (nodeK ls ks n = kindUn (kindP n.tok.text) (atN ks (n.left : Int))) := by rw [Hid, nodeK, if_pos h1, atN_nat]
    rw [HK.out]
    clear h1
    go_enter Tryz.func142, Tryz.ntmps142
    go_wp2
    go_quiet ((go_at_call 157; exact Calls.quiet_of_same (at_lk (HL.out.drewN _) _ ⟨by omega, by omega⟩)))
    go_wp2_with (go_at_call 158; refine (kindOfOne_any _ _ _).mono ?_; rintro e' w5 ⟨rfl, rfl⟩)
    go_ret
    exact ⟨rfl, below_drewN (new_below w _) _⟩
  have e1 : ((n.ops : Int) == 1) = false := by simp; omega
  by_cases h2 : n.ops = 2
  · have e2 : ((n.ops : Int) == 2) = true := by simp; omega
    have HK : Hid (nodeK ls ks n = kindBin (kindP n.tok.text) (atN ks (n.left : Int)) (atN ks (n.right : Int))) := by rw [Hid, nodeK, if_neg h1, if_pos h2, atN_nat, atN_nat]
    rw [HK.out]
    clear h1 h2
    go_enter Tryz.func142, Tryz.ntmps142
    go_wp2
    go_quiet ((go_at_call 157; exact Calls.quiet_of_same (at_lk (HL.out.drewN _) _ ⟨by omega, by omega⟩)))
    have HL2 := hideP (HL.out.drewN nq)
    have HB2 := hideP (below_drewN (new_below w (.cells #[.int .i64 (kindP n.tok.text), .int .i64 n.tok.at', .string (bsOf n.tok.text), .int .i64 n.ops, .int .i64 n.left, .int .i64 n.right] 162)) nq)
    have HN2 := hideP ((Blk.new w #[.int .i64 (kindP n.tok.text), .int .i64 n.tok.at', .string (bsOf n.tok.text), .int .i64 n.ops, .int .i64 n.left, .int .i64 n.right] 162).drewM nq)
    generalize (w.alloc (.cells #[.int .i64 (kindP n.tok.text), .int .i64 n.tok.at', .string (bsOf n.tok.text), .int .i64 n.ops, .int .i64 n.left, .int .i64 n.right] 162)).drewN nq = wq at HL2 HB2 HN2 ⊢
    have k0 := HN2.out.cell 0
    have k5 := HN2.out.cell 5
    have k3 := HL2.out.blk.cell 3
    simp only [List.getElem?_toArray, List.getElem?_cons_zero, List.getElem?_cons_succ] at k0 k5 k3
    clear c3
    go_wp2
    go_quiet ((go_at_call 157; exact Calls.quiet_of_same (at_lk (HL2.out.drewN _) _ ⟨by omega, by omega⟩)))
    go_wp2_with (go_at_call 159; refine (kindOfTwo_any _ _ _ _).mono ?_; rintro e' w5 ⟨rfl, rfl⟩)
    go_ret
    exact ⟨rfl, below_drewN HB2.out _⟩
  have e2 : ((n.ops : Int) == 2) = false := by simp; omega
  by_cases h3 : kindP n.tok.text = 2
  · have e3 : ((kindP n.tok.text : Int) == 2) = true := by simp; omega
    have HK := hideP (nodeK_name ls ks n h1 h2 h3)
    rw [HK.out]
    clear h1 h2 h3
    go_enter Tryz.func142, Tryz.ntmps142
    go_wp2_with (go_at_call 160; refine (kindOfName_any HL.out (bsOf n.tok.text) HX.out).mono ?_; rintro e' w5 ⟨rfl, hb5⟩; rw [bsOf_toList])
    go_ret
    exact ⟨rfl, (new_below w _).trans (hb5.mono (by simp))⟩
  · have e3 : ((kindP n.tok.text : Int) == 2) = false := by simp; omega
    have HK : Hid (nodeK ls ks n = kindOne (kindP n.tok.text)) := by rw [Hid, nodeK, if_neg h1, if_neg h2, if_neg h3]
    rw [HK.out]
    clear h1 h2 h3
    go_enter Tryz.func142, Tryz.ntmps142
    go_wp2_with (go_at_call 161; refine (kindOfSingle_any _ _).mono ?_; rintro e' w5 ⟨rfl, rfl⟩)
    go_ret
    exact ⟨rfl, new_below w _⟩
end Go.Proofs.YtjjbmbjmdgoofaaGreatDoor
