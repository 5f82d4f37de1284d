/-
  The program's check: readSound, Check.
  What the document's small functions on bytes and words do, called in any world: isDigit, isLetter, same, in.
-/
import Derived.Test.YtkbbdfeobcklhaaGreatDoorX34
import Derived.Test.YtkbbdfeobcklhaaGreatDoorProg
import Derived.Test.YtkbbdfeobcklhaaGreatDoorX01
import Derived.Test.YtkbbdfeobcklhaaGreatDoorX00
import Derived.WalkKit
import Derived.WalkSpells
import Derived.WalkLawsBesides
set_option linter.unusedVariables false
set_option linter.unusedSimpArgs false
namespace Go.Proofs.YtkbbdfeobcklhaaGreatDoor
open Go.RowKit Go.Deep

/-- What the program's check tells of a text. -/
def SoundAs (s : Txt) (c : Int) (p : Nat) : Prop :=
  (tokened s = .bad c p ∧ c ≠ 0) ∨ ∃ (L R : List RSt) (n : Nat), PolicyOf s L R ∧ errsOf (nodesS 0 (L ++ R)) (letsS 0 (L ++ R)) (rulesS 0 (L ++ R)) = (n, p) ∧ c = n
theorem Read_bad (s : ByteArray) (w : World) (hg : GlobT w) (hz : s.size ≤ maxLen) {c : Int} {p : Nat} (h : tokened s.toList = .bad c p) :
    Calls Tryz.prog 27 #[.string s] w fun e w' => Below w.heap.size w w' ∧ c ≠ 0 ∧ e = .returned (.tuple #[.agg #[nilS, nilS, nilS], .int .i64 c, .int .i64 (p : Nat)]) := by
  refine (Read_any s w hg hz).mono ?_
  rintro e w' ⟨hb, ⟨c', p', ht, hc, rfl⟩ | ⟨L, R, nv, lv, rv, hp, _⟩⟩
  · rw [h] at ht; cases ht; exact ⟨hb, hc, rfl⟩
  · have := hp.fine; rw [h] at this; cases this
theorem Read_fine (s : ByteArray) (w : World) (hg : GlobT w) (hz : s.size ≤ maxLen) {l : List RTok} (h : tokened s.toList = .fine l) :
    Calls Tryz.prog 27 #[.string s] w fun e w' => Below w.heap.size w w' ∧ ∃ L R na nc la lc ra rc, PolicyOf s.toList L R ∧ e = .returned (.tuple #[.agg #[.slice na (nodesS 0 (L ++ R)).length nc, .slice la (letsS 0 (L ++ R)).length lc, .slice ra (rulesS 0 (L ++ R)).length rc], .int .i64 0, .int .i64 0]) ∧ PolAt w' (.slice na (nodesS 0 (L ++ R)).length nc) (.slice la (letsS 0 (L ++ R)).length lc) (.slice ra (rulesS 0 (L ++ R)).length rc) (nodesS 0 (L ++ R)) (letsS 0 (L ++ R)) (rulesS 0 (L ++ R)) := by
  refine (Read_any s w hg hz).mono ?_
  rintro e w' ⟨hb, ⟨c', p', ht, hc, rfl⟩ | ⟨L, R, nv, lv, rv, hp, rfl, hm⟩⟩
  · rw [h] at ht; cases ht
  · have hpa := PolAt.of hm hp
    obtain ⟨na, nc, rfl⟩ := hpa.n.shape
    obtain ⟨la, lc, rfl⟩ := hpa.l.shape
    obtain ⟨ra, rc, rfl⟩ := hpa.r.shape
    exact ⟨hb, L, R, na, nc, la, lc, ra, rc, hp, rfl, hpa⟩
theorem errs_zero {N : List PNode} {ls : List PLet} {rs : List PRule} {p : Nat} (h : errsOf N ls rs = (0, p)) : p = 0 := by
  unfold errsOf at h
  split at h
  · cases h
  · split at h
    · cases h
    · split at h
      · cases h
      · cases h; rfl
theorem three_sets {w w1 : World} (h : Below w.heap.size w w1) (a b c : Value) : Below w.heap.size w (((w1.setCell ⟨w.heap.size, 0, none⟩ a).setCell ⟨w.heap.size, 1, none⟩ b).setCell ⟨w.heap.size, 2, none⟩ c) :=
  ((h.setCell (p := ⟨w.heap.size, 0, none⟩) (Nat.le_refl _) a).setCell (p := ⟨w.heap.size, 1, none⟩) (Nat.le_refl _) b).setCell (p := ⟨w.heap.size, 2, none⟩) (Nat.le_refl _) c
set_option maxHeartbeats 2000000 in
set_option maxRecDepth 100000 in
theorem readSound_any (s : ByteArray) (w : World) (hg : GlobT w) (hz : s.size ≤ maxLen) :
    Calls Tryz.prog 34 #[.string s] w fun e w' => Below w.heap.size w w' ∧ ∃ c p, SoundAs s.toList c p ∧ ∃ a1 l1 c1 a2 l2 c2 a3 l3 c3, e = .returned (.tuple #[.agg #[.slice a1 l1 c1, .slice a2 l2 c2, .slice a3 l3 c3], .int .i64 c, .int .i64 (p : Nat)]) := by
  have hbz := new_below w (.cells #[nilS, nilS, nilS] 64)
  have HG := hideP (hg.below hbz)
  have HZ := hideP (Blk.new w #[nilS, nilS, nilS] 64)
  have HBZ := hideP hbz
  have HSZ := hideP hz
  clear hg hbz hz
  cases htk : tokened s.toList with
  | error cp =>
    obtain ⟨c, p⟩ := cp
    have HTK : Hid (tokened s.toList = .bad c p) := htk
    clear htk
    go_enter Tryz.func34, Tryz.ntmps34
    go_wp2_with (go_at_call 27; refine (Read_bad s _ HG.out HSZ.out HTK.out).mono ?_; rintro e w1 ⟨hb1, hc, rfl⟩; have HZ1 := hideP (HZ.out.below hb1 HZ.out.lt); have HB1 := hideP hb1; have hz1 := HZ1.out.lt; have z0 := HZ1.out.cell 0; have z1 := HZ1.out.cell 1; have z2 := HZ1.out.cell 2; have f0 := HZ1.out.free 0; have f1 := HZ1.out.free 1; have f2 := HZ1.out.free 2; clear hb1)
    have hfb := (((HZ1.out.set 0 (.slice none 0 0)).set 1 (.slice none 0 0)).set 2 (.slice none 0 0)).alloc (.cells #[.slice none 0 0, .slice none 0 0, .slice none 0 0] 64)
    have g0 := hfb.cell 0
    have g1 := hfb.cell 1
    have g2 := hfb.cell 2
    have hbl := (three_sets (HBZ.out.trans (HB1.out.mono HBZ.out.size)) (.slice none 0 0) (.slice none 0 0) (.slice none 0 0)).trans ((new_below _ (.cells #[.slice none 0 0, .slice none 0 0, .slice none 0 0] 64)).mono (by simp; omega))
    exact bodyPost_ret (v := .tuple #[.agg #[.slice none 0 0, .slice none 0 0, .slice none 0 0], .int .i64 c, .int .i64 p]) (by simp [results, Tryz.results34, go_sem, g0, g1, g2]) rfl ⟨hbl, c, p, Or.inl ⟨HTK.out, hc⟩, _, _, _, _, _, _, _, _, _, rfl⟩
  | ok l =>
    have HTK : Hid (tokened s.toList = .fine l) := htk
    clear htk
    go_enter Tryz.func34, Tryz.ntmps34
    go_wp2_with (first | (go_at_call 27; refine (Read_fine s _ HG.out HSZ.out HTK.out).mono ?_; rintro e w1 ⟨hb1, L, R, na, nc, la, lc, ra, rc, hp, rfl, hpa⟩; have HZ1 := hideP (HZ.out.below hb1 HZ.out.lt); have HB1 := hideP (HBZ.out.trans (hb1.mono HBZ.out.size)); have hz1 := HZ1.out.lt; have HP := hideP hp; have HPA := hideP hpa; clear hb1 hp hpa) | (go_at_call 69; refine (Errors_any _ _ _ _ _ _ _ (HPA.out.below (new_below w1 _)) (fits_of HP.out HPA.out.nb)).mono ?_; rintro e w3 ⟨rfl, hb3⟩; obtain ⟨np, hnp⟩ : ∃ np, errsOf (nodesS 0 (L ++ R)) (letsS 0 (L ++ R)) (rulesS 0 (L ++ R)) = np := ⟨_, rfl⟩; obtain ⟨n, p⟩ := np; rw [hnp]; dsimp only; have HNP := hideP hnp; have HZ3 := hideP ((HZ1.out.alloc (.cells #[.slice na (nodesS 0 (L ++ R)).length nc, .slice la (letsS 0 (L ++ R)).length lc, .slice ra (rulesS 0 (L ++ R)).length rc] 64)).below hb3 (HZ1.out.alloc (.cells #[.slice na (nodesS 0 (L ++ R)).length nc, .slice la (letsS 0 (L ++ R)).length lc, .slice ra (rulesS 0 (L ++ R)).length rc] 64)).lt); have HV3 := hideP ((Blk.new w1 #[.slice na (nodesS 0 (L ++ R)).length nc, .slice la (letsS 0 (L ++ R)).length lc, .slice ra (rulesS 0 (L ++ R)).length rc] 64).below hb3 (Blk.new w1 #[.slice na (nodesS 0 (L ++ R)).length nc, .slice la (letsS 0 (L ++ R)).length lc, .slice ra (rulesS 0 (L ++ R)).length rc] 64).lt); have HB3 := hideP ((HB1.out.trans ((new_below w1 (.cells #[.slice na (nodesS 0 (L ++ R)).length nc, .slice la (letsS 0 (L ++ R)).length lc, .slice ra (rulesS 0 (L ++ R)).length rc] 64)).mono HB1.out.size)).trans (hb3.mono (by simp; omega))); have hz3 := HZ3.out.lt; have hv3 := HV3.out.lt; have z0 := HZ3.out.cell 0; have z1 := HZ3.out.cell 1; have z2 := HZ3.out.cell 2; have f0 := HZ3.out.free 0; have f1 := HZ3.out.free 1; have f2 := HZ3.out.free 2; have v0 := HV3.out.cell 0; have v1 := HV3.out.cell 1; have v2 := HV3.out.cell 2; clear hb3 hnp))
    · rename_i hn0
      have hfb := ((HZ3.out.set 0 (.slice none 0 0)).set 1 (.slice none 0 0)).set 2 (.slice none 0 0)
      have g0 := hfb.cell 0
      have g1 := hfb.cell 1
      have g2 := hfb.cell 2
      have hbl := three_sets HB3.out (.slice none 0 0) (.slice none 0 0) (.slice none 0 0)
      exact bodyPost_ret (v := .tuple #[.agg #[.slice none 0 0, .slice none 0 0, .slice none 0 0], .int .i64 n, .int .i64 p]) (by simp [results, Tryz.results34, go_sem, g0, g1, g2]) rfl ⟨hbl, n, p, Or.inr ⟨L, R, n, HP.out, HNP.out, rfl⟩, _, _, _, _, _, _, _, _, _, rfl⟩
    · rename_i hn0
      have hn1 : n = 0 := by simpa using hn0
      subst hn1
      have hp0 := errs_zero HNP.out
      subst hp0
      have hfb := ((HZ3.out.set 0 (.slice na (nodesS 0 (L ++ R)).length nc)).set 1 (.slice la (letsS 0 (L ++ R)).length lc)).set 2 (.slice ra (rulesS 0 (L ++ R)).length rc)
      have g0 := hfb.cell 0
      have g1 := hfb.cell 1
      have g2 := hfb.cell 2
      have hbl := three_sets HB3.out (.slice na (nodesS 0 (L ++ R)).length nc) (.slice la (letsS 0 (L ++ R)).length lc) (.slice ra (rulesS 0 (L ++ R)).length rc)
      exact bodyPost_ret (v := .tuple #[.agg #[.slice na (nodesS 0 (L ++ R)).length nc, .slice la (letsS 0 (L ++ R)).length lc, .slice ra (rulesS 0 (L ++ R)).length rc], .int .i64 0, .int .i64 0]) (by simp [results, Tryz.results34, go_sem, g0, g1, g2]) rfl ⟨hbl, 0, 0, Or.inr ⟨L, R, 0, HP.out, HNP.out, rfl⟩, _, _, _, _, _, _, _, _, _, rfl⟩
set_option maxHeartbeats 1000000 in
theorem Check_prog (s : ByteArray) (w : World) (hg : GlobT w) (hz : s.size ≤ maxLen) :
    Calls Tryz.prog 15 #[.string s] w fun e w' => Below w.heap.size w w' ∧ ∃ c p, SoundAs s.toList c p ∧ e = .returned (.tuple #[.int .i64 c, .int .i64 (p : Nat)]) := by
  have HG := hideP hg
  have HSZ := hideP hz
  clear hg hz
  go_enter Tryz.func15, Tryz.ntmps15
  go_wp2_with (go_at_call 34; refine (readSound_any s _ HG.out HSZ.out).mono ?_; rintro e w1 ⟨hb1, c, p, hs, a1, l1, c1, a2, l2, c2, a3, l3, c3, rfl⟩; have HB1 := hideP hb1; have HS := hideP hs; clear hb1 hs)
  go_ret2
  exact ⟨HB1.out.trans ((new_below w1 _).mono HB1.out.size), c, p, HS.out, rfl⟩
end Go.Proofs.YtkbbdfeobcklhaaGreatDoor

set_option linter.unusedVariables false
set_option linter.unusedSimpArgs false
namespace Go.Proofs.YtkbbdfeobcklhaaGreatDoor
open Go.RowKit


set_option maxHeartbeats 400000 in
theorem isDigit_any (c : UInt8) (w : World) :
    Calls Tryz.prog 68 #[.int .u8 c.toNat] w fun e w' => e = .returned (.bool (isDig c)) ∧ w' = w := by
  rw [isDig_int]
  go_enter Tryz.func68, Tryz.ntmps68
  go_wp2
  all_goals go_ret
  all_goals exact ⟨ret_bool (by simp; omega), rfl⟩
set_option maxHeartbeats 400000 in
theorem isLetter_any (c : UInt8) (w : World) :
    Calls Tryz.prog 105 #[.int .u8 c.toNat] w fun e w' => e = .returned (.bool (isLet c)) ∧ w' = w := by
  rw [isLet_int]
  go_enter Tryz.func105, Tryz.ntmps105
  go_wp2
  all_goals go_ret
  all_goals exact ⟨ret_bool (by simp; omega), rfl⟩
theorem sameC_int (a b : UInt8) : sameC a b = ((isDig a && isDig b) || (isLet a && isLet b) || (((a.toNat : Int) == 60 || (a.toNat : Int) == 33) && (b.toNat : Int) == 61)) := by
  unfold sameC
  rw [show ((a.toNat : Int) == 60) = (a == 60) from beq_decide_u8 a 60 (by omega), show ((a.toNat : Int) == 33) = (a == 33) from beq_decide_u8 a 33 (by omega), show ((b.toNat : Int) == 61) = (b == 61) from beq_decide_u8 b 61 (by omega)]
set_option maxHeartbeats 1000000 in
theorem same_any (a b : UInt8) (w : World) :
    Calls Tryz.prog 97 #[.int .u8 a.toNat, .int .u8 b.toNat] w fun e w' => e = .returned (.bool (sameC a b)) ∧ w' = w := by
  rw [sameC_int]
  cases h1 : isDig a <;> cases h2 : isLet a
  all_goals
    go_enter Tryz.func97, Tryz.ntmps97
    go_wp2_with (first | (go_at_call 68; refine (isDigit_any _ _).mono ?_; rintro e w' ⟨rfl, rfl⟩) | (go_at_call 105; refine (isLetter_any _ _).mono ?_; rintro e w' ⟨rfl, rfl⟩))
    all_goals go_ret
  all_goals exact ⟨ret_bool (by simp_all), rfl⟩

/-- Is the word one of these? -/
def inL (t : ByteArray) (l : List ByteArray) : Bool := l.any fun x => x.toList == t.toList

theorem inL_hit {t : ByteArray} {l : List ByteArray} {k : Nat} (h : k < l.length) (he : (l[k].toList == t.toList) = true) : inL t l = true := by
  simp only [inL, List.any_eq_true]
  exact ⟨l[k], List.getElem_mem h, he⟩
theorem inL_miss {t : ByteArray} {l : List ByteArray} {k : Nat} (h : k < l.length) (hi : inL t (l.take k) = false) (he : (l[k].toList == t.toList) = false) : inL t (l.take (k + 1)) = false := by
  rw [List.take_succ_eq_append_getElem h]
  simp only [inL, List.any_append, List.any_cons, List.any_nil, Bool.or_false, he] at hi ⊢
  simp [hi]

set_option maxHeartbeats 1000000 in
theorem in_any (t : ByteArray) (l : List ByteArray) (v : Value) (w : World) (hv : Reads w v l.length (l.map .string)) (hl : l.length ≤ 1000000) :
    Calls Tryz.prog 70 #[.string t, v] w fun e w' => e = .returned (.bool (inL t l)) ∧ w' = w := by
  rcases hv with ⟨rfl, hn, hx⟩ | ⟨b, o, cap, rfl, _, hlt, hc⟩
  · have : l = [] := by simpa using hx
    subst this
    go_enter Tryz.func70, Tryz.ntmps70
    go_wp2
    refine wp_loop_rounds 1 ?_; rw [rounds_succ]
    go_wp2
    go_ret
    exact ⟨rfl, rfl⟩
  · go_enter Tryz.func70, Tryz.ntmps70
    go_wp2
    go_loop [5] (fun i => ∃ k : Nat, k ≤ l.length ∧ i = .int .i64 k ∧ inL t (l.take k) = false) (fun i => l.length - (intOf i).toNat)
    case atStart => exact ⟨0, Nat.zero_le _, rfl, rfl⟩
    case round =>
      obtain ⟨k, hk, rfl, hin⟩ := hrel
      by_cases hlt : k < l.length
      · have hck : w.cell? ⟨b, o + k, none⟩ = some (.string l[k]) := hc k _ (by simp [hlt])
        have HI : Hid (inL t (l.take k) = false) := hin
        clear hin hc
        go_wp2
        · go_ret
          exact ⟨ret_bool (inL_hit hlt (by assumption)).symm, rfl⟩
        · go_round
          case rel => exact ⟨k + 1, by omega, by go_num, inL_miss hlt HI.out (by assumption)⟩
          case measure => simp [intOf]; omega
      · go_wp2
        go_ret
        exact ⟨ret_bool (by rw [List.take_of_length_le (by omega)] at hin; exact hin.symm), rfl⟩

/-- The slice that a literal of words makes. -/
theorem reads_lit (w : World) (l : List ByteArray) (cs : Array Value) (e : TypeId) (cap : Nat) (hcs : cs.toList = l.map .string) (hcap : l.length ≤ cap) : Reads (w.alloc (.cells cs e)) (.slice (some ⟨w.heap.size, 0, none⟩) l.length cap) l.length (l.map .string) := by
  refine .inr ⟨_, _, _, rfl, hcap, by simp, fun j u hj => ?_⟩
  rw [← hcs] at hj
  simp at hj
  simp [hj]

def wLeaf : List ByteArray := [⟨#[116, 114, 117, 101]⟩, ⟨#[102, 97, 108, 115, 101]⟩, ⟨#[100, 114, 121]⟩, ⟨#[99, 111, 108, 100]⟩, ⟨#[115, 97, 102, 101]⟩, ⟨#[115, 105, 122, 101]⟩, ⟨#[115, 112, 101, 101, 100]⟩, ⟨#[110, 101, 101, 100]⟩, ⟨#[122, 111, 110, 101]⟩, ⟨#[99, 97, 112]⟩, ⟨#[117, 115, 101, 100]⟩, ⟨#[104, 97, 115]⟩]
def wOwn : List ByteArray := [⟨#[108, 101, 116]⟩, ⟨#[119, 104, 101, 110]⟩, ⟨#[115, 99, 111, 114, 101]⟩, ⟨#[114, 101, 106, 101, 99, 116]⟩, ⟨#[97, 110, 100]⟩, ⟨#[111, 114]⟩, ⟨#[110, 111, 116]⟩]
def wJoint : List ByteArray := [⟨#[111, 114]⟩, ⟨#[97, 110, 100]⟩, ⟨#[61]⟩, ⟨#[33, 61]⟩, ⟨#[60]⟩, ⟨#[60, 61]⟩, ⟨#[43]⟩, ⟨#[45]⟩, ⟨#[42]⟩, ⟨#[47]⟩, ⟨#[37]⟩]
def wSign : List ByteArray := [⟨#[59]⟩, ⟨#[61]⟩, ⟨#[33, 61]⟩, ⟨#[60]⟩, ⟨#[60, 61]⟩, ⟨#[43]⟩, ⟨#[45]⟩, ⟨#[42]⟩, ⟨#[47]⟩, ⟨#[37]⟩, ⟨#[40]⟩, ⟨#[41]⟩]

theorem inL_eq (t : ByteArray) (l : List ByteArray) (m : List Txt) (h : l = m.map bsOf) : inL t l = m.contains t.toList := by
  subst h
  rw [Bool.eq_iff_iff]
  simp [inL, List.any_eq_true, bsOf_toList]

set_option maxHeartbeats 1000000 in
theorem isLeaf_any (t : ByteArray) (w : World) :
    Calls Tryz.prog 66 #[.string t] w fun e w' => e = .returned (.bool (leafT t.toList)) ∧ Below w.heap.size w w' := by
  go_enter Tryz.func66, Tryz.ntmps66
  go_wp2_with (go_at_call 70; refine (in_any t wLeaf _ _ (reads_lit _ wLeaf _ _ _ rfl (by decide)) (by decide)).mono ?_; rintro e w' ⟨rfl, rfl⟩)
  go_ret
  exact ⟨ret_bool (inL_eq t wLeaf tLeaf rfl), (Below.refl _ _).alloc (Nat.le_refl _) _⟩

set_option maxHeartbeats 1000000 in
theorem isJoint_any (t : ByteArray) (w : World) :
    Calls Tryz.prog 142 #[.string t] w fun e w' => e = .returned (.bool (jointT t.toList)) ∧ Below w.heap.size w w' := by
  go_enter Tryz.func142, Tryz.ntmps142
  go_wp2_with (go_at_call 70; refine (in_any t wJoint _ _ (reads_lit _ wJoint _ _ _ rfl (by decide)) (by decide)).mono ?_; rintro e w' ⟨rfl, rfl⟩)
  go_ret
  exact ⟨ret_bool (inL_eq t wJoint tJoint rfl), (Below.refl _ _).alloc (Nat.le_refl _) _⟩

theorem head_getElem (t : ByteArray) (h : 0 < t.size) : headC t.toList = t[0] := by
  have := getElem_toList t 0 h
  unfold headC
  cases hl : t.toList with
  | nil => rw [hl] at this; simp at this
  | cons a r => rw [hl] at this; simpa using this

set_option maxHeartbeats 1000000 in
theorem isName_any (t : ByteArray) (h0 : 0 < t.size) (w : World) :
    Calls Tryz.prog 67 #[.string t] w fun e w' => e = .returned (.bool (nameT t.toList)) ∧ Below w.heap.size w w' := by
  have hh := head_getElem t h0
  have hn : nameT t.toList = (isLet t[0] && !leafT t.toList && !ownT t.toList) := by rw [← hh]; rfl
  rw [hn]; clear hn hh
  cases hl : isLet t[0] <;> cases hf : leafT t.toList
  all_goals
    go_enter Tryz.func67, Tryz.ntmps67
    go_wp2_with (first | (go_at_call 105; refine (isLetter_any _ _).mono ?_; rintro e w' ⟨rfl, rfl⟩) | (go_at_call 66; refine (isLeaf_any _ _).mono ?_; rintro e w1 ⟨rfl, hb1⟩) | (go_at_call 70; refine (in_any t wOwn _ _ (reads_lit _ wOwn _ _ _ rfl (by decide)) (by decide)).mono ?_; rintro e w' ⟨rfl, rfl⟩))
    all_goals go_ret
  · exact ⟨rfl, Below.refl _ _⟩
  · exact ⟨rfl, Below.refl _ _⟩
  · exact ⟨ret_bool (by rw [inL_eq t wOwn tOwn rfl]; simp [ownT]), hb1.alloc hb1.size _⟩
  · exact ⟨ret_bool (by simp), hb1.alloc hb1.size _⟩
end Go.Proofs.YtkbbdfeobcklhaaGreatDoor
