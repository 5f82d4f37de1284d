/-
  What the document's small functions on bytes and words do, called in any world: isDigit, isLetter, same, in.
  What the document's tokens are, by its own functions may and Tokens, called in any world.
  The document's Tokens, called in any world with a text of at most 400 bytes: the tokens, or the place at which none begins.
  What the document's spot does with a token, called on a spot in memory: enter, rule, value, after, step.
  The document's step from token to token, and Tokened: the tokens of a text that is a policy, or the error and its place.
-/
import Derived.Test.YtblfeahabbghmaaGreatDoorProg
import Derived.Test.YtblfeahabbghmaaGreatDoorMA
import Derived.WalkKit
import Derived.WalkSpells
import Derived.WalkLawsBesides
import Derived.Deep.QuietTactic
import Derived.BigQuiet
set_option linter.unusedVariables false
set_option linter.unusedSimpArgs false
namespace Go.Proofs.YtblfeahabbghmaaGreatDoor
open Go.RowKit


set_option maxHeartbeats 400000 in
theorem isDigit_any (c : UInt8) (w : World) :
    Calls Tryz.prog 155 #[.int .u8 c.toNat] w fun e w' => e = .returned (.bool (isDig c)) ∧ w' = w := by
  rw [isDig_int]
  go_enter Tryz.func155, Tryz.ntmps155
  go_wp2
  all_goals go_ret
  all_goals exact ⟨ret_bool (by simp; omega), rfl⟩
set_option maxHeartbeats 400000 in
theorem isLetter_any (c : UInt8) (w : World) :
    Calls Tryz.prog 193 #[.int .u8 c.toNat] w fun e w' => e = .returned (.bool (isLet c)) ∧ w' = w := by
  rw [isLet_int]
  go_enter Tryz.func193, Tryz.ntmps193
  go_wp2
  all_goals go_ret
  all_goals exact ⟨ret_bool (by simp; omega), rfl⟩
theorem sameC_int (a b : UInt8) : sameC a b = ((isDig a && isDig b) || (isLet a && isLet b) || (((a.toNat : Int) == 60 || (a.toNat : Int) == 33) && (b.toNat : Int) == 61)) := by
  unfold sameC
  rw [show ((a.toNat : Int) == 60) = (a == 60) from beq_decide_u8 a 60 (by omega), show ((a.toNat : Int) == 33) = (a == 33) from beq_decide_u8 a 33 (by omega), show ((b.toNat : Int) == 61) = (b == 61) from beq_decide_u8 b 61 (by omega)]
set_option maxHeartbeats 1000000 in
theorem same_any (a b : UInt8) (w : World) :
    Calls Tryz.prog 185 #[.int .u8 a.toNat, .int .u8 b.toNat] w fun e w' => e = .returned (.bool (sameC a b)) ∧ w' = w := by
  rw [sameC_int]
  cases h1 : isDig a <;> cases h2 : isLet a
  all_goals
    go_enter Tryz.func185, Tryz.ntmps185
    go_wp2_with (first | (go_at_call 155; refine (isDigit_any _ _).mono ?_; rintro e w' ⟨rfl, rfl⟩) | (go_at_call 193; refine (isLetter_any _ _).mono ?_; rintro e w' ⟨rfl, rfl⟩))
    all_goals go_ret
  all_goals exact ⟨ret_bool (by simp_all), rfl⟩

/-- Is the word one of these? -/
def inL (t : ByteArray) (l : List ByteArray) : Bool := l.any fun x => x.toList == t.toList

theorem inL_hit {t : ByteArray} {l : List ByteArray} {k : Nat} (h : k < l.length) (he : (l[k].toList == t.toList) = true) : inL t l = true := by
  simp only [inL, List.any_eq_true]
  exact ⟨l[k], List.getElem_mem h, he⟩
theorem inL_miss {t : ByteArray} {l : List ByteArray} {k : Nat} (h : k < l.length) (hi : inL t (l.take k) = false) (he : (l[k].toList == t.toList) = false) : inL t (l.take (k + 1)) = false := by
  rw [List.take_succ_eq_append_getElem h]
  simp only [inL, List.any_append, List.any_cons, List.any_nil, Bool.or_false, he] at hi ⊢
  simp [hi]

set_option maxHeartbeats 1000000 in
theorem in_any (t : ByteArray) (l : List ByteArray) (v : Value) (w : World) (hv : Reads w v l.length (l.map .string)) (hl : l.length ≤ 1000000) :
    Calls Tryz.prog 156 #[.string t, v] w fun e w' => e = .returned (.bool (inL t l)) ∧ w' = w := by
  rcases hv with ⟨rfl, hn, hx⟩ | ⟨b, o, cap, rfl, _, hlt, hc⟩
  · have : l = [] := by simpa using hx
    subst this
    go_enter Tryz.func156, Tryz.ntmps156
    go_wp2
    refine wp_loop_rounds 1 ?_; rw [rounds_succ]
    go_wp2
    go_ret
    exact ⟨rfl, rfl⟩
  · go_enter Tryz.func156, Tryz.ntmps156
    go_wp2
    go_loop [5] (fun i => ∃ k : Nat, k ≤ l.length ∧ i = .int .i64 k ∧ inL t (l.take k) = false) (fun i => l.length - (intOf i).toNat)
    case atStart => exact ⟨0, Nat.zero_le _, rfl, rfl⟩
    case round =>
      obtain ⟨k, hk, rfl, hin⟩ := hrel
      by_cases hlt : k < l.length
      · have hck : w.cell? ⟨b, o + k, none⟩ = some (.string l[k]) := hc k _ (by simp [hlt])
        have HI : Hid (inL t (l.take k) = false) := hin
        clear hin hc
        go_wp2
        · go_ret
          exact ⟨ret_bool (inL_hit hlt (by assumption)).symm, rfl⟩
        · go_round
          case rel => exact ⟨k + 1, by omega, by go_num, inL_miss hlt HI.out (by assumption)⟩
          case measure => simp [intOf]; omega
      · go_wp2
        go_ret
        exact ⟨ret_bool (by rw [List.take_of_length_le (by omega)] at hin; exact hin.symm), rfl⟩

/-- The slice that a literal of words makes. -/
theorem reads_lit (w : World) (l : List ByteArray) (cs : Array Value) (e : TypeId) (cap : Nat) (hcs : cs.toList = l.map .string) (hcap : l.length ≤ cap) : Reads (w.alloc (.cells cs e)) (.slice (some ⟨w.heap.size, 0, none⟩) l.length cap) l.length (l.map .string) := by
  refine .inr ⟨_, _, _, rfl, hcap, by simp, fun j u hj => ?_⟩
  rw [← hcs] at hj
  simp at hj
  simp [hj]

def wLeaf : List ByteArray := [⟨#[116, 114, 117, 101]⟩, ⟨#[102, 97, 108, 115, 101]⟩, ⟨#[100, 114, 121]⟩, ⟨#[99, 111, 108, 100]⟩, ⟨#[115, 97, 102, 101]⟩, ⟨#[115, 105, 122, 101]⟩, ⟨#[115, 112, 101, 101, 100]⟩, ⟨#[110, 101, 101, 100]⟩, ⟨#[122, 111, 110, 101]⟩, ⟨#[99, 97, 112]⟩, ⟨#[117, 115, 101, 100]⟩, ⟨#[104, 97, 115]⟩]
def wOwn : List ByteArray := [⟨#[108, 101, 116]⟩, ⟨#[119, 104, 101, 110]⟩, ⟨#[115, 99, 111, 114, 101]⟩, ⟨#[114, 101, 106, 101, 99, 116]⟩, ⟨#[97, 110, 100]⟩, ⟨#[111, 114]⟩, ⟨#[110, 111, 116]⟩]
def wJoint : List ByteArray := [⟨#[111, 114]⟩, ⟨#[97, 110, 100]⟩, ⟨#[61]⟩, ⟨#[33, 61]⟩, ⟨#[60]⟩, ⟨#[60, 61]⟩, ⟨#[43]⟩, ⟨#[45]⟩, ⟨#[42]⟩, ⟨#[47]⟩, ⟨#[37]⟩]
def wSign : List ByteArray := [⟨#[59]⟩, ⟨#[61]⟩, ⟨#[33, 61]⟩, ⟨#[60]⟩, ⟨#[60, 61]⟩, ⟨#[43]⟩, ⟨#[45]⟩, ⟨#[42]⟩, ⟨#[47]⟩, ⟨#[37]⟩, ⟨#[40]⟩, ⟨#[41]⟩]

theorem inL_eq (t : ByteArray) (l : List ByteArray) (m : List Txt) (h : l = m.map bsOf) : inL t l = m.contains t.toList := by
  subst h
  rw [Bool.eq_iff_iff]
  simp [inL, List.any_eq_true, bsOf_toList]

set_option maxHeartbeats 1000000 in
theorem isLeaf_any (t : ByteArray) (w : World) :
    Calls Tryz.prog 153 #[.string t] w fun e w' => e = .returned (.bool (leafT t.toList)) ∧ Below w.heap.size w w' := by
  go_enter Tryz.func153, Tryz.ntmps153
  go_wp2_with (go_at_call 156; refine (in_any t wLeaf _ _ (reads_lit _ wLeaf _ _ _ rfl (by decide)) (by decide)).mono ?_; rintro e w' ⟨rfl, rfl⟩)
  go_ret
  exact ⟨ret_bool (inL_eq t wLeaf tLeaf rfl), (Below.refl _ _).alloc (Nat.le_refl _) _⟩

set_option maxHeartbeats 1000000 in
theorem isJoint_any (t : ByteArray) (w : World) :
    Calls Tryz.prog 213 #[.string t] w fun e w' => e = .returned (.bool (jointT t.toList)) ∧ Below w.heap.size w w' := by
  go_enter Tryz.func213, Tryz.ntmps213
  go_wp2_with (go_at_call 156; refine (in_any t wJoint _ _ (reads_lit _ wJoint _ _ _ rfl (by decide)) (by decide)).mono ?_; rintro e w' ⟨rfl, rfl⟩)
  go_ret
  exact ⟨ret_bool (inL_eq t wJoint tJoint rfl), (Below.refl _ _).alloc (Nat.le_refl _) _⟩

theorem head_getElem (t : ByteArray) (h : 0 < t.size) : headC t.toList = t[0] := by
  have := getElem_toList t 0 h
  unfold headC
  cases hl : t.toList with
  | nil => rw [hl] at this; simp at this
  | cons a r => rw [hl] at this; simpa using this

set_option maxHeartbeats 1000000 in
theorem isName_any (t : ByteArray) (h0 : 0 < t.size) (w : World) :
    Calls Tryz.prog 154 #[.string t] w fun e w' => e = .returned (.bool (nameT t.toList)) ∧ Below w.heap.size w w' := by
  have hh := head_getElem t h0
  have hn : nameT t.toList = (isLet t[0] && !leafT t.toList && !ownT t.toList) := by rw [← hh]; rfl
  rw [hn]; clear hn hh
  cases hl : isLet t[0] <;> cases hf : leafT t.toList
  all_goals
    go_enter Tryz.func154, Tryz.ntmps154
    go_wp2_with (first | (go_at_call 193; refine (isLetter_any _ _).mono ?_; rintro e w' ⟨rfl, rfl⟩) | (go_at_call 153; refine (isLeaf_any _ _).mono ?_; rintro e w1 ⟨rfl, hb1⟩) | (go_at_call 156; refine (in_any t wOwn _ _ (reads_lit _ wOwn _ _ _ rfl (by decide)) (by decide)).mono ?_; rintro e w' ⟨rfl, rfl⟩))
    all_goals go_ret
  · exact ⟨rfl, Below.refl _ _⟩
  · exact ⟨rfl, Below.refl _ _⟩
  · exact ⟨ret_bool (by rw [inL_eq t wOwn tOwn rfl]; simp [ownT]), hb1.alloc hb1.size _⟩
  · exact ⟨ret_bool (by simp), hb1.alloc hb1.size _⟩
end Go.Proofs.YtblfeahabbghmaaGreatDoor

set_option linter.unusedVariables false
set_option linter.unusedSimpArgs false
namespace Go.Proofs.YtblfeahabbghmaaGreatDoor
open Go.RowKit

theorem cell_lit (w : World) (l : List ByteArray) (cs : Array Value) (e : TypeId) (hcs : cs.toList = l.map .string) (k : Nat) (hk : k < l.length) : (w.alloc (.cells cs e)).cell? ⟨w.heap.size, k, none⟩ = some (.string l[k]) := by
  have : cs.toList[k]? = some (.string l[k]) := by rw [hcs]; simp [hk]
  simp at this
  simp [this]
set_option maxHeartbeats 1000000 in
theorem may_any (t : ByteArray) (h0 : 0 < t.size) (w : World) :
    Calls Tryz.prog 186 #[.string t] w fun e w' => e = .returned (.bool (mayT t.toList)) ∧ Below w.heap.size w w' := by
  have hh := head_getElem t h0
  have hn : mayT t.toList = if isDig t[0] then decide (t.size ≤ 18) else if isLet t[0] then decide (t.size ≤ 8) else signT t.toList := by
    rw [← hh, ← toList_length]; rfl
  rw [hn]; clear hn hh
  cases hd : isDig t[0]
  · cases hl : isLet t[0]
    · go_enter Tryz.func186, Tryz.ntmps186
      go_wp2_with (first | (go_at_call 155; refine (isDigit_any _ _).mono ?_; rintro e w' ⟨rfl, rfl⟩) | (go_at_call 193; refine (isLetter_any _ _).mono ?_; rintro e w' ⟨rfl, rfl⟩))
      go_loop [4] (fun i => ∃ k : Nat, k ≤ 12 ∧ i = .int .i64 k ∧ inL t (wSign.take k) = false) (fun i => 12 - (intOf i).toNat)
      case atStart => exact ⟨0, Nat.zero_le _, rfl, rfl⟩
      case round =>
        obtain ⟨k, hk, rfl, hin⟩ := hrel
        by_cases hlt : k < 12
        · have hls : k < wSign.length := hlt
          have hck := cell_lit w' wSign #[.string ⟨#[59]⟩, .string ⟨#[61]⟩, .string ⟨#[33, 61]⟩, .string ⟨#[60]⟩, .string ⟨#[60, 61]⟩, .string ⟨#[43]⟩, .string ⟨#[45]⟩, .string ⟨#[42]⟩, .string ⟨#[47]⟩, .string ⟨#[37]⟩, .string ⟨#[40]⟩, .string ⟨#[41]⟩] 9 rfl k hls
          have HI : Hid (inL t (wSign.take k) = false) := hin
          clear hin
          obtain ⟨x, hx⟩ : ∃ x, x = wSign[k] := ⟨_, rfl⟩
          rw [← hx] at hck
          have HX : Hid (x = wSign[k]) := hx
          clear hx
          go_wp2
          · go_ret
            exact ⟨ret_bool (by rw [signT, ← inL_eq t wSign tSign rfl]; exact (inL_hit hls (HX.out ▸ (by assumption))).symm), (Below.refl _ _).alloc (Nat.le_refl _) _⟩
          · go_round
            case rel => exact ⟨k + 1, by omega, by go_num, inL_miss hls HI.out (HX.out ▸ (by assumption))⟩
            case measure => simp [intOf]; omega
        · go_wp2
          go_ret
          exact ⟨ret_bool (by rw [signT, ← inL_eq t wSign tSign rfl]; rw [List.take_of_length_le (by simp [wSign]; omega)] at hin; exact hin.symm), (Below.refl _ _).alloc (Nat.le_refl _) _⟩
    · go_enter Tryz.func186, Tryz.ntmps186
      go_wp2_with (first | (go_at_call 155; refine (isDigit_any _ _).mono ?_; rintro e w' ⟨rfl, rfl⟩) | (go_at_call 193; refine (isLetter_any _ _).mono ?_; rintro e w' ⟨rfl, rfl⟩))
      go_ret
      exact ⟨ret_bool (by simp; omega), Below.refl _ _⟩
  · go_enter Tryz.func186, Tryz.ntmps186
    go_wp2_with (first | (go_at_call 155; refine (isDigit_any _ _).mono ?_; rintro e w' ⟨rfl, rfl⟩) | (go_at_call 193; refine (isLetter_any _ _).mono ?_; rintro e w' ⟨rfl, rfl⟩))
    go_ret
    exact ⟨ret_bool (by simp; omega), Below.refl _ _⟩

def cellR (t : RTok) : List Value := [.string (bsOf t.text), .int .i64 t.at']
def cellsR (l : List RTok) : List Value := l.flatMap cellR
theorem cellsR_length (l : List RTok) : (cellsR l).length = l.length * 2 := by
  induction l with
  | nil => rfl
  | cons a r ih => simp only [cellsR, List.flatMap_cons, List.length_append, List.length_cons] at ih ⊢; rw [ih]; simp [cellR]; omega
theorem cellsR_snoc (l : List RTok) (t : RTok) : cellsR (l ++ [t]) = cellsR l ++ cellR t := by simp [cellsR]

theorem Tryz.infoRTok : (Tryz.prog.info? 171).map (fun i => (i.zero, i.size, i.bytes)) = some (some (.agg #[.string ⟨#[]⟩, .int .i64 0]), 2, 24) := by kernel_rfl

end Go.Proofs.YtblfeahabbghmaaGreatDoor

set_option linter.unusedVariables false
set_option linter.unusedSimpArgs false
namespace Go.Proofs.YtblfeahabbghmaaGreatDoor
open Go.RowKit

def bitOf : Value → Nat | .bool true => 1 | _ => 0
theorem cell_two (w : World) (x y : Value) (e : TypeId) : ∀ j u, [x, y][j]? = some u → (w.alloc (.cells #[x, y] e)).cell? ((⟨w.heap.size, 0, none⟩ : Addr).add j) = some u := by
  intro j u hj
  match j, hj with
  | 0, hj => simp at hj; subst hj; simp [Addr.add]
  | 1, hj => simp at hj; subst hj; simp [Addr.add]
theorem one_two {s : ByteArray} {k : IntKind} {n : Int} : ∀ u ∈ [Value.string s, Value.int k n], u.oneCell' = true := by
  intro u hu
  simp at hu
  rcases hu with rfl | rfl <;> rfl
theorem tok_step {w wr w1 w2 : World} {acc : List RTok} {v v' : Value} {s : ByteArray} {p k : Nat} {e : TypeId} {o : Obj} {l : Txt} (hbel : Below w.heap.size w wr) (hb1 : Below wr.heap.size wr w1)
    (hown2 : w2.ownsRow w.heap.size e 2 v' (acc.length + 1) (cellsR acc ++ [.string (s.extract p k), .int .i64 p])) (hg : (w1.alloc o).grownBy w2 v.ownBlock) (hown1 : w1.ownsRow w.heap.size e 2 v acc.length (cellsR acc)) (hE : s.extract p k = bsOf l) :
    w2.ownsRow w.heap.size e 2 v' (acc ++ [(⟨(s.extract p k).toList, p⟩ : RTok)]).length (cellsR (acc ++ [⟨(s.extract p k).toList, p⟩])) ∧ Below w.heap.size w w2 := by
  have hs1 := hbel.size
  have hs2 := hb1.size
  refine ⟨?_, ?_⟩
  · rw [cellsR_snoc]
    simp only [cellR, bsOf_of, List.length_append, List.length_cons, List.length_nil]
    exact hown2
  · refine ((hbel.trans (hb1.mono hs1)).alloc (by omega) o).grown hg (by simp; omega) (fun k hk => (hown1.lt k hk).1)
def TokRel (s : ByteArray) (w : World) (v i : Value) (wr : World) : Prop :=
  ∃ (p : Nat) (acc : List RTok), p ≤ s.size ∧ i = .int .i64 p ∧ wr.ownsRow w.heap.size 171 2 v acc.length (cellsR acc) ∧ acc.length ≤ p ∧ Below w.heap.size w wr ∧ toksR s.toList 0 = preR acc (toksR (s.toList.drop p) p)
set_option maxHeartbeats 1600000 in
set_option maxRecDepth 100000 in
theorem Tokens_any (s : ByteArray) (hs : s.size ≤ 400) (w : World) :
    Calls Tryz.prog 147 #[.string s] w fun e w' => Below w.heap.size w w' ∧
      ((∃ l v, toksR s.toList 0 = .ok l ∧ l.length ≤ 400 ∧ e = .returned (.tuple #[v, .int .i64 (-1)]) ∧ w'.ownsRow w.heap.size 171 2 v l.length (cellsR l)) ∨
       (∃ p, toksR s.toList 0 = .error p ∧ e = .returned (.tuple #[.slice none 0 0, .int .i64 p]))) := by
  obtain ⟨i0, hi, hz0, hz1, hz2⟩ := info_parts Tryz.infoRTok
  go_enter Tryz.func147, Tryz.ntmps147
  go_wp2
  go_loopw [4, 5] (fun v i wr => TokRel s w v i wr) (fun _ i _ => s.size - (intOf i).toNat)
  case atStart => exact ⟨0, [], Nat.zero_le _, rfl, World.ownsRow_nil _ _ _ _, Nat.le_refl _, Below.refl _ _, by rw [preR_nil]; rfl⟩
  case round =>
    obtain ⟨p, acc, hp, rfl, hown, hacc, hbel, hrem⟩ := hrel
    have HR : Hid (toksR s.toList 0 = preR acc (toksR (s.toList.drop p) p)) := hrem
    clear hrem
    by_cases hlt : p < s.size
    · by_cases hb : blankC s[p] = true
      · have hb' := hb
        rw [blankC_int] at hb'
        have hb2 : (s[p].toNat : Int) = 32 ∨ (s[p].toNat : Int) = 10 := by simpa using hb'
        have HB : Hid (blankC s[p] = true) := hb
        clear hb hb'
        rcases hb2 with h32 | h10
        · go_wp2
          go_roundw
          case rel => exact ⟨p + 1, acc, by omega, by go_num, hown, by omega, hbel, by rw [HR.out, toks_blank s p hlt HB.out]⟩
          case measure => simp [intOf]; omega
        · have h32 : ¬ (s[p].toNat : Int) = 32 := by omega
          go_wp2
          go_roundw
          case rel => exact ⟨p + 1, acc, by omega, by go_num, hown, by omega, hbel, by rw [HR.out, toks_blank s p hlt HB.out]⟩
          case measure => simp [intOf]; omega
      · have hb' : ¬ ((s[p].toNat : Int) = 32 ∨ (s[p].toNat : Int) = 10) := by
          rw [blankC_int] at hb; simpa using hb
        have h32 : ((s[p].toNat : Int) == 32) = false := by simp; omega
        have h10 : ((s[p].toNat : Int) == 10) = false := by simp; omega
        have HB : Hid (blankC s[p] = false) := (by simpa using hb : blankC s[p] = false)
        clear hb hb'
        have htl := tokLen_bd s p hlt
        go_wp2
        go_loopw [6, 7] (fun kk mm wx => ∃ (k : Nat) (b : Bool), p < k ∧ k ≤ p + tokLen s p ∧ kk = .int .i64 k ∧ mm = .bool b ∧ wx.ownsRow w.heap.size 171 2 u4 acc.length (cellsR acc) ∧ Below w.heap.size w wx ∧ (b = false → k = p + tokLen s p)) (fun kk mm _ => (s.size - (intOf kk).toNat) + bitOf mm)
        case atStart => exact ⟨p + 1, true, by omega, by omega, by go_num, rfl, hown, hbel, by simp⟩
        case round =>
          clear hown hbel
          obtain ⟨k, b, hpk, hkn, rfl, rfl, hown, hbel, hb⟩ := hrel
          by_cases hgo : b = true ∧ k < s.size
          · obtain ⟨rfl, hks⟩ := hgo
            clear hb
            have hix := fun wx => run_index_nat (P := Tryz.prog) wx 9 s .i64 (IntKind.i64.wrap ((k : Int) - 1)) (k - 1) Tryz.underlying9 (by rw [IntWalk.i64_in _ ⟨by omega, by omega⟩]; omega) (by omega)
            by_cases hkk : k < p + tokLen s p
            · have hsm := tokLen_more s p k hpk hkk hks
              go_wp2
              go_quiet ((go_at_call 185; exact Calls.quiet_of_same (same_any _ _ _)))
              go_wp2
              go_roundw
              case rel => exact ⟨k + 1, true, by omega, by omega, by go_num, rfl, hown, below_drewN hbel _, by simp⟩
              case measure => simp [intOf, bitOf]; omega
            · have hke : k = p + tokLen s p := by omega
              have hsm := tokLen_stop s p k hlt hke hks
              have HK : Hid (k = p + tokLen s p) := hke
              clear hke
              go_wp2
              go_quiet ((go_at_call 185; exact Calls.quiet_of_same (same_any _ _ _)))
              go_wp2
              go_roundw
              case rel => exact ⟨k, false, by omega, by omega, by go_num, rfl, hown, below_drewN hbel _, fun _ => HK.out⟩
              case measure => simp [intOf, bitOf]
          · have hke : k = p + tokLen s p := by
              cases b
              · exact hb rfl
              · have : ¬ k < s.size := fun h => hgo ⟨rfl, h⟩
                omega
            have hz : Hid (0 < (s.extract p k).size) := (by rw [ByteArray.size_extract]; omega : 0 < (s.extract p k).size)
            have HK : Hid (k = p + tokLen s p) := hke
            have hkp : (k : Int) ≤ s.size := by omega
            clear hke hb
            have hout : (k < s.size ∧ b = false) ∨ ¬ k < s.size := by
              by_cases hks : k < s.size
              · cases b
                · exact .inl ⟨hks, rfl⟩
                · exact absurd ⟨rfl, hks⟩ hgo
              · exact .inr hks
            clear hgo
            have HE : Hid (s.extract p k = bsOf ((s.toList.drop p).take (k - p))) := extract_bsOf s p k
            cases hm : mayT (s.extract p k).toList
            · rcases hout with ⟨hks, rfl⟩ | hge
              · go_wp2_with (go_at_call 186; refine (may_any _ hz.out _).mono ?_; rintro e w1 ⟨rfl, hb1⟩)
                go_ret2
                exact ⟨hbel.trans (hb1.mono hbel.size), .inr ⟨p, by rw [HR.out, toks_bad s p hlt HB.out (HK.out ▸ hm)]; rfl, rfl⟩⟩
              · go_wp2_with (go_at_call 186; refine (may_any _ hz.out _).mono ?_; rintro e w1 ⟨rfl, hb1⟩)
                go_ret2
                exact ⟨hbel.trans (hb1.mono hbel.size), .inr ⟨p, by rw [HR.out, toks_bad s p hlt HB.out (HK.out ▸ hm)]; rfl, rfl⟩⟩
            · rcases hout with ⟨hks, rfl⟩ | hge
              · go_wp2_with (first | (go_at_call 186; refine (may_any _ hz.out _).mono ?_; rintro e w1 ⟨rfl, hb1⟩; have hown1 := own_below hown hb1) | (at_builtin; refine wpList_append_own _ rfl _ _ 162 rfl w.heap.size 171 i0 (.agg #[.string ⟨#[]⟩, .int .i64 0]) 2 24 Tryz.underlying162 hi hz0 hz1 hz2 rfl (by decide) _ _ _ rfl (hown1.alloc _) ⟨w1.heap.size, 0, none⟩ 1 1 [.string (s.extract p k), .int .i64 p] rfl rfl (cell_two w1 _ _ _) one_two (by unfold maxLen; omega) (by omega) (by have := hbel.size; have := hb1.size; simp; omega) ?_; intro v' w2 hown2 hgrow2 _))
                have R := tok_step hbel hb1 hown2 hgrow2 hown1 HE.out
                clear hown2 hgrow2 hown1
                go_wp2
                go_roundw
                case rel => exact ⟨k, acc ++ [⟨(s.extract p k).toList, p⟩], by omega, by go_num, R.1, by simp; omega, R.2, by rw [HR.out, toks_tok s p hlt HB.out (HK.out ▸ hm), preR_app, ← HK.out]⟩
                case measure => simp [intOf]; omega
              · go_wp2_with (first | (go_at_call 186; refine (may_any _ hz.out _).mono ?_; rintro e w1 ⟨rfl, hb1⟩; have hown1 := own_below hown hb1) | (at_builtin; refine wpList_append_own _ rfl _ _ 162 rfl w.heap.size 171 i0 (.agg #[.string ⟨#[]⟩, .int .i64 0]) 2 24 Tryz.underlying162 hi hz0 hz1 hz2 rfl (by decide) _ _ _ rfl (hown1.alloc _) ⟨w1.heap.size, 0, none⟩ 1 1 [.string (s.extract p k), .int .i64 p] rfl rfl (cell_two w1 _ _ _) one_two (by unfold maxLen; omega) (by omega) (by have := hbel.size; have := hb1.size; simp; omega) ?_; intro v' w2 hown2 hgrow2 _))
                have R := tok_step hbel hb1 hown2 hgrow2 hown1 HE.out
                clear hown2 hgrow2 hown1
                go_wp2
                go_roundw
                case rel => exact ⟨k, acc ++ [⟨(s.extract p k).toList, p⟩], by omega, by go_num, R.1, by simp; omega, R.2, by rw [HR.out, toks_tok s p hlt HB.out (HK.out ▸ hm), preR_app, ← HK.out]⟩
                case measure => simp [intOf]; omega
    · go_wp2
      go_ret2
      refine ⟨hbel, .inl ⟨acc, _, ?_, by omega, rfl, hown⟩⟩
      rw [HR.out, toks_end s p (by omega)]; simp [preR]
end Go.Proofs.YtblfeahabbghmaaGreatDoor

set_option linter.unusedVariables false
set_option linter.unusedSimpArgs false
namespace Go.Proofs.YtblfeahabbghmaaGreatDoor
open Go.RowKit

def spotCells (p : Spot) : Array Value := #[.int .i64 p.next, .int .i64 p.expr, .int .i64 p.opn]
def SpotAt (w : World) (b : Nat) (p : Spot) : Prop := Blk w b (spotCells p) 219
theorem SpotAt.facts {w : World} {b : Nat} {p : Spot} (h : SpotAt w b p) : (w.cell? ⟨b, 0, none⟩ = some (.int .i64 p.next) ∧ w.cell? ⟨b, 1, none⟩ = some (.int .i64 p.expr) ∧ w.cell? ⟨b, 2, none⟩ = some (.int .i64 p.opn)) ∧
    w.frozen? ⟨b, 0, none⟩ = false ∧ w.frozen? ⟨b, 1, none⟩ = false ∧ w.frozen? ⟨b, 2, none⟩ = false :=
  ⟨⟨h.cell 0, h.cell 1, h.cell 2⟩, h.free 0, h.free 1, h.free 2⟩
theorem SpotAt.set0 {w : World} {b : Nat} {p : Spot} (h : SpotAt w b p) (n : Nat) : SpotAt (w.setCell ⟨b, 0, none⟩ (.int .i64 n)) b ⟨n, p.expr, p.opn⟩ := h.set 0 _
theorem SpotAt.set1 {w : World} {b : Nat} {p : Spot} (h : SpotAt w b p) (n : Nat) : SpotAt (w.setCell ⟨b, 1, none⟩ (.int .i64 n)) b ⟨p.next, n, p.opn⟩ := h.set 1 _
theorem SpotAt.set2 {w : World} {b : Nat} {p : Spot} (h : SpotAt w b p) (n : Nat) : SpotAt (w.setCell ⟨b, 2, none⟩ (.int .i64 n)) b ⟨p.next, p.expr, n⟩ := h.set 2 _

set_option maxHeartbeats 400000 in
theorem enter_any (b : Nat) (p : Spot) (x : Nat) (w : World) (h : SpotAt w b p) :
    Calls Tryz.prog 212 #[.pointer (some ⟨b, 0, none⟩), .int .i64 x] w fun e w' => e = .returned (.bool true) ∧ SpotAt w' b ⟨3, x, p.opn⟩ ∧ Below b w w' := by
  have HP : Hid (SpotAt w b p) := h
  obtain ⟨⟨c0, c1, c2⟩, f0, f1, f2⟩ := h.facts
  clear h
  go_enter Tryz.func212, Tryz.ntmps212
  go_wp2
  go_ret
  exact ⟨rfl, (HP.out.set0 3).set1 x, (below_setCell b 0 _).setCell (p := ⟨b, 1, none⟩) (Nat.le_refl _) _⟩

set_option maxHeartbeats 1000000 in
theorem rule_any (b : Nat) (p : Spot) (t : ByteArray) (wh : Bool) (w : World) (h : SpotAt w b p) :
    Calls Tryz.prog 187 #[.pointer (some ⟨b, 0, none⟩), .string t, .bool wh] w fun e w' => e = .returned (.bool (ruleS p t.toList wh).2) ∧ SpotAt w' b (ruleS p t.toList wh).1 ∧ Below b w w' := by
  have HP : Hid (SpotAt w b p) := h
  obtain ⟨⟨c0, c1, c2⟩, f0, f1, f2⟩ := h.facts
  clear h
  cases wh
  all_goals
    go_enter Tryz.func187, Tryz.ntmps187
    go_wp2_with (go_at_call 212; refine (enter_any b p _ _ HP.out).mono ?_; rintro e w1 ⟨rfl, hs1, hb1⟩)
  all_goals go_ret
  all_goals first
    | (have hr : ruleS p t.toList true = (⟨3, 1, p.opn⟩, true) := by simp [ruleS, cWhen, *]
       rw [hr]; exact ⟨rfl, hs1, hb1⟩)
    | (have hr : ∀ x, ruleS p t.toList x = (⟨3, 2, p.opn⟩, true) := by simp [ruleS, cWhen, cScore, *]
       rw [hr]; exact ⟨rfl, hs1, hb1⟩)
    | (have hr : ∀ x, ruleS p t.toList x = (⟨5, p.expr, p.opn⟩, true) := by simp [ruleS, cWhen, cScore, cReject, *]
       rw [hr]; exact ⟨rfl, HP.out.set0 5, below_setCell b 0 _⟩)
    | (have hr : ∀ x, ruleS p t.toList x = (p, false) := by simp [ruleS, cWhen, cScore, cReject, *]
       rw [hr]; exact ⟨rfl, HP.out, Below.refl _ _⟩)
    | (have hr : ruleS p t.toList false = (p, false) := by simp [ruleS, cWhen, cScore, cReject, *]
       rw [hr]; exact ⟨rfl, HP.out, Below.refl _ _⟩)

set_option maxHeartbeats 1000000 in
theorem value_any (b : Nat) (p : Spot) (t : ByteArray) (h0 : 0 < t.size) (ho : p.opn ≤ 8) (w : World) (h : SpotAt w b p) :
    Calls Tryz.prog 188 #[.pointer (some ⟨b, 0, none⟩), .string t] w fun e w' => e = .returned (.bool (valueS p t.toList).2) ∧ SpotAt w' b (valueS p t.toList).1 ∧ Below b w w' := by
  have HP : Hid (SpotAt w b p) := h
  have hlt := h.lt
  have HH : Hid (headC t.toList = t[0]) := head_getElem t h0
  obtain ⟨⟨c0, c1, c2⟩, f0, f1, f2⟩ := h.facts
  clear h
  cases hl : leafT t.toList <;> cases hn : nameT t.toList
  all_goals
    go_enter Tryz.func188, Tryz.ntmps188
    go_wp2_with (first | (go_at_call 153; refine (isLeaf_any _ _).mono ?_; rintro e w1 ⟨rfl, hb1⟩) | (go_at_call 154; refine (isName_any _ h0 _).mono ?_; rintro e w2 ⟨rfl, hb2⟩; have hb12 := hb1.trans (hb2.mono hb1.size); have hs2 : Hid (SpotAt w2 b p) := HP.out.below hb12 hlt; have hf2 := hs2.out.facts; obtain ⟨⟨d0, d1, d2⟩, g0, g1, g2⟩ := hf2) | (go_at_call 155; refine (isDigit_any _ _).mono ?_; rintro e _ ⟨rfl, rfl⟩))
  all_goals go_ret
  all_goals first
    | (have hr : valueS p t.toList = (p, true) := by simp [valueS, cMinus, cNot, *]
       rw [hr]; exact ⟨rfl, HP.out, Below.refl _ _⟩)
    | (have hr : valueS p t.toList = (p, true) := by simp_all [valueS, cMinus, cNot]
       rw [hr]; exact ⟨rfl, HP.out, Below.refl _ _⟩)
    | (have hr : valueS p t.toList = (⟨p.next, p.expr, p.opn + 1⟩, decide (p.opn + 1 ≤ 8)) := by simp_all [valueS, cMinus, cNot, cOpen]
       rw [hr]; exact ⟨ret_bool (by simp; omega), HP.out.set2 (p.opn + 1), below_setCell b 2 _⟩)
    | (have hr : valueS p t.toList = (⟨4, p.expr, p.opn⟩, leafT t.toList || nameT t.toList || isDig t[0]) := by rw [← HH.out]; simp_all [valueS, cMinus, cNot, cOpen]
       rw [hr]; exact ⟨ret_bool (by simp [hl, hn]), hs2.out.set0 4, (hb12.mono (Nat.le_of_lt hlt)).setCell (p := ⟨b, 0, none⟩) (Nat.le_refl _) _⟩)

set_option maxHeartbeats 1000000 in
theorem after_any (b : Nat) (p : Spot) (t : ByteArray) (ho : p.opn ≤ 8) (he : p.expr ≤ 2) (w : World) (h : SpotAt w b p) :
    Calls Tryz.prog 189 #[.pointer (some ⟨b, 0, none⟩), .string t] w fun e w' => e = .returned (.bool (afterS p t.toList).2) ∧ SpotAt w' b (afterS p t.toList).1 ∧ Below b w w' := by
  have HP : Hid (SpotAt w b p) := h
  have hlt := h.lt
  clear h
  by_cases hj : jointT t.toList = true
  · have hr : afterS p t.toList = (⟨3, p.expr, p.opn⟩, true) := by simp [afterS, hj]
    rw [hr]; clear hr
    go_enter Tryz.func189, Tryz.ntmps189
    go_wp2_with (go_at_call 213; refine (isJoint_any _ _).mono ?_; rintro e w1 ⟨rfl, hb1⟩; have hs1 : Hid (SpotAt w1 b p) := HP.out.below hb1 hlt; have hf1 := hs1.out.facts; obtain ⟨⟨d0, d1, d2⟩, g0, g1, g2⟩ := hf1)
    go_ret
    exact ⟨rfl, hs1.out.set0 3, (hb1.mono (Nat.le_of_lt hlt)).setCell (p := ⟨b, 0, none⟩) (Nat.le_refl _) _⟩
  · have hj : jointT t.toList = false := by simpa using hj
    by_cases hop : 0 < p.opn
    · have hr : afterS p t.toList = (⟨p.next, p.expr, p.opn - 1⟩, t.toList == cClose) := by simp [afterS, hj, hop]
      rw [hr]; clear hr
      go_enter Tryz.func189, Tryz.ntmps189
      go_wp2_with (go_at_call 213; refine (isJoint_any _ _).mono ?_; rintro e w1 ⟨rfl, hb1⟩; have hs1 : Hid (SpotAt w1 b p) := HP.out.below hb1 hlt; have hf1 := hs1.out.facts; obtain ⟨⟨d0, d1, d2⟩, g0, g1, g2⟩ := hf1)
      go_ret
      refine ⟨rfl, ?_, (hb1.mono (Nat.le_of_lt hlt)).setCell (p := ⟨b, 2, none⟩) (Nat.le_refl _) _⟩
      have := hs1.out.set2 (p.opn - 1)
      rw [show ((p.opn - 1 : Nat) : Int) = (p.opn : Int) - 1 by omega] at this
      exact this
    · have hop0 : p.opn = 0 := by omega
      have hr : afterS p t.toList = if p.expr = 1 then ruleS p t.toList false else if p.expr = 0 then (⟨0, p.expr, p.opn⟩, t.toList == cSemi) else (⟨6, p.expr, p.opn⟩, t.toList == cSemi) := by simp [afterS, hj, hop0]
      rw [hr]; clear hr
      by_cases h1 : p.expr = 1
      · rw [if_pos h1]
        go_enter Tryz.func189, Tryz.ntmps189
        go_wp2_with (first | (go_at_call 213; refine (isJoint_any _ _).mono ?_; rintro e w1 ⟨rfl, hb1⟩; have hs1 : Hid (SpotAt w1 b p) := HP.out.below hb1 hlt; have hf1 := hs1.out.facts; obtain ⟨⟨d0, d1, d2⟩, g0, g1, g2⟩ := hf1) | (go_at_call 187; refine (rule_any b p _ _ _ hs1.out).mono ?_; rintro e w2 ⟨rfl, hs2, hb2⟩))
        go_ret
        exact ⟨rfl, hs2, (hb1.mono (Nat.le_of_lt hlt)).trans hb2⟩
      · rw [if_neg h1]
        by_cases h2 : p.expr = 0
        · rw [if_pos h2]
          go_enter Tryz.func189, Tryz.ntmps189
          go_wp2_with (go_at_call 213; refine (isJoint_any _ _).mono ?_; rintro e w1 ⟨rfl, hb1⟩; have hs1 : Hid (SpotAt w1 b p) := HP.out.below hb1 hlt; have hf1 := hs1.out.facts; obtain ⟨⟨d0, d1, d2⟩, g0, g1, g2⟩ := hf1)
          go_ret
          exact ⟨rfl, hs1.out.set0 0, (hb1.mono (Nat.le_of_lt hlt)).setCell (p := ⟨b, 0, none⟩) (Nat.le_refl _) _⟩
        · rw [if_neg h2]
          go_enter Tryz.func189, Tryz.ntmps189
          go_wp2_with (go_at_call 213; refine (isJoint_any _ _).mono ?_; rintro e w1 ⟨rfl, hb1⟩; have hs1 : Hid (SpotAt w1 b p) := HP.out.below hb1 hlt; have hf1 := hs1.out.facts; obtain ⟨⟨d0, d1, d2⟩, g0, g1, g2⟩ := hf1)
          go_ret
          exact ⟨rfl, hs1.out.set0 6, (hb1.mono (Nat.le_of_lt hlt)).setCell (p := ⟨b, 0, none⟩) (Nat.le_refl _) _⟩
end Go.Proofs.YtblfeahabbghmaaGreatDoor

set_option linter.unusedVariables false
set_option linter.unusedSimpArgs false
namespace Go.Proofs.YtblfeahabbghmaaGreatDoor
open Go.RowKit

set_option maxHeartbeats 2000000 in
theorem step_any (b : Nat) (p : Spot) (t : ByteArray) (h0 : 0 < t.size) (ho : p.opn ≤ 8) (he : p.expr ≤ 2) (hn : p.next ≤ 6) (w : World) (h : SpotAt w b p) :
    Calls Tryz.prog 148 #[.pointer (some ⟨b, 0, none⟩), .string t] w fun e w' => e = .returned (.bool (stepS p t.toList).2) ∧ SpotAt w' b (stepS p t.toList).1 ∧ Below b w w' := by
  have HP : Hid (SpotAt w b p) := h
  have hlt := h.lt
  obtain ⟨⟨c0, c1, c2⟩, f0, f1, f2⟩ := h.facts
  clear h
  rcases (show p.next = 0 ∨ p.next = 1 ∨ p.next = 2 ∨ p.next = 3 ∨ p.next = 4 ∨ p.next = 5 ∨ p.next = 6 by omega) with e | e | e | e | e | e | e
  · by_cases hl : (t.toList == cLet) = true
    · have hr : stepS p t.toList = (⟨1, p.expr, p.opn⟩, true) := by simp only [stepS, e, hl, if_true]
      rw [hr]; clear hr
      have hl' : (t.toList == [108, 101, 116]) = true := hl
      rw [e] at c0
      go_enter Tryz.func148, Tryz.ntmps148
      go_wp2
      go_ret
      exact ⟨rfl, HP.out.set0 1, below_setCell b 0 _⟩
    · have hl : (t.toList == cLet) = false := by simpa using hl
      have hr : stepS p t.toList = ruleS p t.toList true := by simp [stepS, e, hl]
      rw [hr]; clear hr
      have hl' : (t.toList == [108, 101, 116]) = false := hl
      rw [e] at c0
      go_enter Tryz.func148, Tryz.ntmps148
      go_wp2_with (go_at_call 187; refine (rule_any b p _ _ _ HP.out).mono ?_; rintro e w2 ⟨rfl, hs2, hb2⟩)
      go_ret
      exact ⟨rfl, hs2, hb2⟩
  · have hr : stepS p t.toList = (⟨2, p.expr, p.opn⟩, nameT t.toList) := by simp [stepS, e]
    rw [hr]; clear hr
    rw [e] at c0
    go_enter Tryz.func148, Tryz.ntmps148
    go_wp2_with (go_at_call 154; refine (isName_any _ h0 _).mono ?_; rintro e w2 ⟨rfl, hb2⟩)
    go_ret
    exact ⟨rfl, (HP.out.set0 2).below hb2 (by simp; exact hlt), (below_setCell b 0 _).trans (hb2.mono (by simp; omega))⟩
  · have hr : stepS p t.toList = (⟨3, 0, p.opn⟩, t.toList == cEq) := by simp [stepS, e]
    rw [hr]; clear hr
    rw [e] at c0
    go_enter Tryz.func148, Tryz.ntmps148
    go_wp2
    go_ret
    exact ⟨rfl, (HP.out.set0 3).set1 0, (below_setCell b 0 _).setCell (p := ⟨b, 1, none⟩) (Nat.le_refl _) _⟩
  · have hr : stepS p t.toList = valueS p t.toList := by simp [stepS, e]
    rw [hr]; clear hr
    rw [e] at c0
    go_enter Tryz.func148, Tryz.ntmps148
    go_wp2_with (go_at_call 188; refine (value_any b p _ h0 ho _ HP.out).mono ?_; rintro e w2 ⟨rfl, hs2, hb2⟩)
    go_ret
    exact ⟨rfl, hs2, hb2⟩
  · have hr : stepS p t.toList = afterS p t.toList := by simp [stepS, e]
    rw [hr]; clear hr
    rw [e] at c0
    go_enter Tryz.func148, Tryz.ntmps148
    go_wp2_with (go_at_call 189; refine (after_any b p _ ho he _ HP.out).mono ?_; rintro e w2 ⟨rfl, hs2, hb2⟩)
    go_ret
    exact ⟨rfl, hs2, hb2⟩
  · have hr : stepS p t.toList = (⟨6, p.expr, p.opn⟩, t.toList == cSemi) := by simp [stepS, e]
    rw [hr]; clear hr
    rw [e] at c0
    go_enter Tryz.func148, Tryz.ntmps148
    go_wp2
    go_ret
    exact ⟨rfl, HP.out.set0 6, below_setCell b 0 _⟩
  · have hr : stepS p t.toList = ruleS p t.toList true := by simp [stepS, e]
    rw [hr]; clear hr
    rw [e] at c0
    go_enter Tryz.func148, Tryz.ntmps148
    go_wp2_with (go_at_call 187; refine (rule_any b p _ _ _ HP.out).mono ?_; rintro e w2 ⟨rfl, hs2, hb2⟩)
    go_ret
    exact ⟨rfl, hs2, hb2⟩
end Go.Proofs.YtblfeahabbghmaaGreatDoor
