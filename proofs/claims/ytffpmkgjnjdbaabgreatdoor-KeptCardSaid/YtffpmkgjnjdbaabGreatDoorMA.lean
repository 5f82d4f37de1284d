/-
  Small facts on blocks of cells that a call itself has made: what they hold, what they hold behind a store.
  Plain lists of bytes: the words of the language, the document's tokens.
  The document's way through the tokens of a policy: what may come next, as plain data.
  Expressions as trees that keep their brackets: their tokens, and what the document's root and inside find in them.
  The kinds of values, as the document's functions reckon them, over trees.
  The document's look at the NAMEs of a policy, token by token.
  A policy as a list of statements whose expressions are trees: its tokens, and where each statement ends.
  How many parts a policy has, as the document counts its tokens.
  What is wrong with the kinds of a policy, as the document looks for it.
  The program's tokens, as plain data.
  The program's tokens are the document's, with their kinds, and one of the kind End behind them.
-/
import Derived.WalkKit
import Derived.WalkSpells
import Derived.WalkLawsBesides
import Derived.Deep.QuietTactic
import Derived.BigQuiet
import Derived.Laws.Strings
import Derived.Deep.Trees
set_option linter.unusedVariables false
set_option linter.unusedSimpArgs false
namespace Go.Proofs.YtffpmkgjnjdbaabGreatDoor
open Go.RowKit

/-- Block b holds these cells; none is frozen. -/
def Blk (w : World) (b : Nat) (cs : Array Value) (t : TypeId) : Prop := w.heap[b]? = some (.cells cs t (0, 0))
theorem Blk.cell {w : World} {b : Nat} {cs : Array Value} {t : TypeId} (h : Blk w b cs t) (i : Nat) : w.cell? ⟨b, i, none⟩ = cs[i]? := by
  unfold Blk at h; simp [World.cell?, h]
theorem Blk.free {w : World} {b : Nat} {cs : Array Value} {t : TypeId} (h : Blk w b cs t) (i : Nat) : w.frozen? ⟨b, i, none⟩ = false := by
  unfold Blk at h; simp [World.frozen?, h]
theorem Blk.lt {w : World} {b : Nat} {cs : Array Value} {t : TypeId} (h : Blk w b cs t) : b < w.heap.size := lt_of_block h
theorem Blk.set {w : World} {b : Nat} {cs : Array Value} {t : TypeId} (h : Blk w b cs t) (i : Nat) (v : Value) : Blk (w.setCell ⟨b, i, none⟩ v) b (cs.setIfInBounds i v) t := by
  have hlt := h.lt
  have h' : w.heap[b] = .cells cs t (0, 0) := by unfold Blk at h; simpa [Array.getElem?_eq_getElem hlt] using h
  show (w.heap.modify b _)[b]? = _
  rw [Array.getElem?_eq_getElem (by simpa using hlt), Array.getElem_modify_self, h']
  rfl
theorem Blk.other {w : World} {b : Nat} {cs : Array Value} {t : TypeId} (h : Blk w b cs t) (a : Addr) (v : Value) (hne : b ≠ a.block) : Blk (w.setCell a v) b cs t := by
  unfold Blk; rw [Below.heap_setCell _ _ _ _ hne]; exact h
theorem Blk.below {w w' : World} {b B : Nat} {cs : Array Value} {t : TypeId} (h : Blk w b cs t) (hb : Below B w w') (hB : b < B) : Blk w' b cs t := by
  unfold Blk; rw [hb.block b hB]; exact h
theorem Blk.alloc {w : World} {b : Nat} {cs : Array Value} {t : TypeId} (h : Blk w b cs t) (o : Obj) : Blk (w.alloc o) b cs t :=
  h.below ((Below.refl w.heap.size w).alloc (Nat.le_refl _) o) h.lt
theorem Blk.new (w : World) (cs : Array Value) (t : TypeId) : Blk (w.alloc (.cells cs t)) w.heap.size cs t := heap_alloc_new w _
theorem Blk.drew {w : World} {b : Nat} {cs : Array Value} {t : TypeId} (h : Blk w b cs t) : Blk w.drew b cs t := h

theorem below_setCell {w : World} (b i : Nat) (v : Value) : Below b w (w.setCell ⟨b, i, none⟩ v) := (Below.refl b w).setCell (p := ⟨b, i, none⟩) (Nat.le_refl _) v

theorem ret_bool {a b : Bool} (h : a = b) : Ending.returned (.bool a) = .returned (.bool b) := by rw [h]
theorem ret_int {k : IntKind} {a b : Int} (h : a = b) : Ending.returned (.int k a) = .returned (.int k b) := by rw [h]

theorem ret_tup {a b : Array Value} (h : a = b) : Ending.returned (.tuple a) = .returned (.tuple b) := by rw [h]
/-- A slice value that reads as n elements whose cells are xs, in blocks that are there. -/
def Reads (w : World) (v : Value) (n : Nat) (xs : List Value) : Prop :=
  (v = .slice none 0 0 ∧ n = 0 ∧ xs = []) ∨ ∃ b o cap, v = .slice (some ⟨b, o, none⟩) n cap ∧ n ≤ cap ∧ b < w.heap.size ∧ ∀ j u, xs[j]? = some u → w.cell? ⟨b, o + j, none⟩ = some u

theorem Reads.below {w w' : World} {v : Value} {n : Nat} {xs : List Value} (h : Reads w v n xs) (hb : Below w.heap.size w w') : Reads w' v n xs := by
  rcases h with h | ⟨b, o, cap, rfl, hn, hlt, hc⟩
  · exact .inl h
  · exact .inr ⟨b, o, cap, rfl, hn, Nat.lt_of_lt_of_le hlt hb.size, fun j u hj => (hb.cell (p := ⟨b, o + j, none⟩) hlt).trans (hc j u hj)⟩

theorem Reads.pos {w : World} {v : Value} {n : Nat} {xs : List Value} (h : Reads w v n xs) (hn : 0 < n) :
    ∃ g o cap, v = .slice (some ⟨g, o, none⟩) n cap ∧ n ≤ cap ∧ g < w.heap.size ∧ ∀ j u, xs[j]? = some u → w.cell? ⟨g, o + j, none⟩ = some u := by
  rcases h with ⟨_, h, _⟩ | h
  · omega
  · exact h
theorem Reads.alloc {w : World} {v : Value} {n : Nat} {xs : List Value} (h : Reads w v n xs) (o : Obj) : Reads (w.alloc o) v n xs := h.below ((Below.refl _ _).alloc (Nat.le_refl _) o)
theorem Reads.drew {w : World} {v : Value} {n : Nat} {xs : List Value} (h : Reads w v n xs) : Reads w.drew v n xs := h
theorem Reads.shape {w : World} {v : Value} {n : Nat} {xs : List Value} (h : Reads w v n xs) : ∃ a c, v = .slice a n c := by
  rcases h with ⟨rfl, h, _⟩ | ⟨g, o, cap, rfl, _⟩
  · exact ⟨none, 0, by rw [h]⟩
  · exact ⟨_, _, rfl⟩
theorem run_index_nat {P : Program} (w : World) (t : TypeId) (s : ByteArray) (k : IntKind) (i : Int) (n : Nat) (h : P.underlying t = some .string) (hi : i = (n : Int)) (hn : n < s.size) :
    (Instr.index t (.string s) (.int k i)).run P w = .ok (.int .u8 s[n].toNat) w := by
  subst hi
  rw [run_index_string w t s k _ h, dif_pos ⟨by omega, by omega⟩]
  simp
theorem below_drewN {B : Nat} {a w : World} (h : Below B a w) (n : Nat) : Below B a (w.drewN n) := h.trans ⟨rfl, rfl, rfl, Nat.le_refl _, fun _ _ => rfl⟩
theorem own_below {w w' : World} {base : Nat} {e : TypeId} {size : Nat} {v : Value} {n : Nat} {xs : List Value} (h : w.ownsRow base e size v n xs) (hb : Below w.heap.size w w') : w'.ownsRow base e size v n xs := by
  refine ⟨h.1, ?_⟩
  rcases h.2 with hn | ⟨g, cap, cur, rfl, hbg, hg, r⟩
  · exact .inl hn
  · exact .inr ⟨g, cap, cur, rfl, hbg, by rw [hb.block g (Array.getElem?_eq_some_iff.1 hg).1]; exact hg, r⟩
theorem own_belowB {w w' : World} {B base : Nat} {e : TypeId} {size : Nat} {v : Value} {n : Nat} {xs : List Value} (h : w.ownsRow base e size v n xs) (hb : Below B w w') (hv : ∀ k, v.ownBlock = some k → k < B) : w'.ownsRow base e size v n xs := by
  refine ⟨h.1, ?_⟩
  rcases h.2 with hn | ⟨g, cap, cur, rfl, hbg, hg, r⟩
  · exact .inl hn
  · exact .inr ⟨g, cap, cur, rfl, hbg, by rw [hb.block g (hv g rfl)]; exact hg, r⟩
theorem one_one {s : ByteArray} : ∀ u ∈ [Value.string s], u.oneCell' = true := by
  intro u hu
  simp at hu
  subst hu
  rfl
theorem reads_of_own {w : World} {base : Nat} {e : TypeId} {size : Nat} {v : Value} {n : Nat} {xs : List Value} (h : w.ownsRow base e size v n xs) : Reads w v n xs := by
  rcases h.2 with ⟨rfl, rfl⟩ | ⟨g, cap, cur, rfl, hb, hg, hnc, hcm, hcs, htk⟩
  · refine .inl ⟨rfl, rfl, ?_⟩
    have := h.1
    simpa using this
  · refine .inr ⟨g, 0, cap, rfl, hnc, lt_of_block hg, fun j u hj => ?_⟩
    have hlt : j < n * size := by
      have := h.1
      rw [List.getElem?_eq_some_iff] at hj
      obtain ⟨h1, _⟩ := hj
      omega
    rw [Nat.zero_add, h.cellAt j hlt]
    exact hj
theorem own_grown {w w' : World} {base : Nat} {e : TypeId} {size : Nat} {v : Value} {n : Nat} {xs : List Value} {o : Obj} {row : Option Nat} (h : w.ownsRow base e size v n xs) (hg : (w.alloc o).grownBy w' row) (hne : v.ownBlock = none ∨ v.ownBlock ≠ row) : w'.ownsRow base e size v n xs :=
  (h.alloc o).kept hg hne
theorem own_ne {w : World} {b1 b2 : Nat} {e1 e2 : TypeId} {s1 s2 : Nat} {v1 v2 : Value} {n1 n2 : Nat} {x1 x2 : List Value} (h1 : w.ownsRow b1 e1 s1 v1 n1 x1) (h2 : w.ownsRow b2 e2 s2 v2 n2 x2) (he : e1 ≠ e2) : v1.ownBlock = none ∨ v1.ownBlock ≠ v2.ownBlock := by
  rcases h1.2 with ⟨rfl, _⟩ | ⟨g1, c1, cur1, rfl, _, hg1, _⟩
  · exact .inl rfl
  · right
    rcases h2.2 with ⟨rfl, _⟩ | ⟨g2, c2, cur2, rfl, _, hg2, _⟩
    · simp [Value.ownBlock]
    · intro e
      simp only [Value.ownBlock, Option.some.injEq] at e
      rw [e, hg2] at hg1
      simp only [Option.some.injEq, Obj.cells.injEq] at hg1
      exact he hg1.2.1.symm
theorem one_int1 {k : IntKind} {n : Int} : ∀ u ∈ [Value.int k n], u.oneCell' = true := by
  intro u hu
  simp at hu
  subst hu
  rfl
theorem one_int4 {k : IntKind} {a b c d : Int} : ∀ u ∈ [Value.int k a, .int k b, .int k c, .int k d], u.oneCell' = true := by
  intro u hu
  simp at hu
  rcases hu with rfl | rfl | rfl | rfl <;> rfl
theorem cell_four (w : World) (x y z t : Value) (e : TypeId) : ∀ j u, [x, y, z, t][j]? = some u → (w.alloc (.cells #[x, y, z, t] e)).cell? ((⟨w.heap.size, 0, none⟩ : Addr).add j) = some u := by
  intro j u hj
  match j, hj with
  | 0, hj => simp at hj; subst hj; simp [Addr.add]
  | 1, hj => simp at hj; subst hj; simp [Addr.add]
  | 2, hj => simp at hj; subst hj; simp [Addr.add]
  | 3, hj => simp at hj; subst hj; simp [Addr.add]
theorem cell_one_at (w : World) (x : Value) (e : TypeId) (b : Nat) (hb : b = w.heap.size) : ∀ j u, [x][j]? = some u → (w.alloc (.cells #[x] e)).cell? ((⟨b, 0, none⟩ : Addr).add j) = some u := by
  subst hb
  exact cell_one_new w x e
theorem after_drew {w w1 : World} {n : Nat} (h : Below (w.drewN n).heap.size (w.drewN n) w1) : Below w.heap.size w w1 := by
  have h1 : Below w.heap.size w (w.drewN n) := below_drewN (Below.refl _ _) n
  have h2 : (w.drewN n).heap.size = w.heap.size := rfl
  rw [h2] at h
  exact h1.trans h
end Go.Proofs.YtffpmkgjnjdbaabGreatDoor

set_option linter.unusedVariables false
set_option linter.unusedSimpArgs false
namespace Go.Proofs.YtffpmkgjnjdbaabGreatDoor
abbrev Txt := List UInt8
def bsOf (t : Txt) : ByteArray := ⟨t.toArray⟩
theorem bsOf_toList (t : Txt) : (bsOf t).toList = t := by rw [ByteArray.toList_eq]; rfl
theorem bsOf_of (b : ByteArray) : bsOf b.toList = b := by rw [ByteArray.toList_eq]; cases b; simp [bsOf]
theorem bsOf_size (t : Txt) : (bsOf t).size = t.length := by simp [bsOf, ByteArray.size]
theorem bsOf_inj {a b : Txt} (h : bsOf a = bsOf b) : a = b := by rw [← bsOf_toList a, h, bsOf_toList]
theorem toList_length (b : ByteArray) : b.toList.length = b.size := by rw [ByteArray.toList_eq]; rfl
theorem extract_bsOf (b : ByteArray) (i k : Nat) : b.extract i k = bsOf ((b.toList.drop i).take (k - i)) := by
  apply ByteArray.ext
  simp [bsOf, ByteArray.toList_eq, ByteArray.data_extract]
  rw [← Array.toList_inj]
  simp [Array.toList_extract, List.extract]
theorem getElem_toList (b : ByteArray) (i : Nat) (h : i < b.size) : b.toList[i]? = some b[i] := by
  rw [ByteArray.toList_eq]; simp only [Array.getElem?_toList]
  exact Array.getElem?_eq_getElem h

def tLeaf : List Txt := [[116, 114, 117, 101], [102, 97, 108, 115, 101], [100, 114, 121], [99, 111, 108, 100], [115, 97, 102, 101], [115, 105, 122, 101], [115, 112, 101, 101, 100], [110, 101, 101, 100], [122, 111, 110, 101], [99, 97, 112], [117, 115, 101, 100], [104, 97, 115]]
def tOwn : List Txt := [[108, 101, 116], [119, 104, 101, 110], [115, 99, 111, 114, 101], [114, 101, 106, 101, 99, 116], [97, 110, 100], [111, 114], [110, 111, 116]]
def tJoint : List Txt := [[111, 114], [97, 110, 100], [61], [33, 61], [60], [60, 61], [43], [45], [42], [47], [37]]
def tSign : List Txt := [[59], [61], [33, 61], [60], [60, 61], [43], [45], [42], [47], [37], [40], [41]]

def isDig (c : UInt8) : Bool := 48 ≤ c && c ≤ 57
def isLet (c : UInt8) : Bool := 97 ≤ c && c ≤ 122
def leafT (t : Txt) : Bool := tLeaf.contains t
def ownT (t : Txt) : Bool := tOwn.contains t
def jointT (t : Txt) : Bool := tJoint.contains t
def signT (t : Txt) : Bool := tSign.contains t
def headC (t : Txt) : UInt8 := t.headD 0
def nameT (t : Txt) : Bool := isLet (headC t) && !leafT t && !ownT t
def sameC (a b : UInt8) : Bool := (isDig a && isDig b) || (isLet a && isLet b) || ((a == 60 || a == 33) && b == 61)
def mayT (t : Txt) : Bool := if isDig (headC t) then decide (t.length ≤ 18) else if isLet (headC t) then decide (t.length ≤ 8) else signT t

/-- How many bytes from the left belong to one token. -/
def runLen : Txt → Nat
  | [] => 0
  | [_] => 1
  | a :: b :: r => if sameC a b then runLen (b :: r) + 1 else 1
theorem runLen_pos (a : UInt8) (r : Txt) : 1 ≤ runLen (a :: r) := by
  cases r with
  | nil => simp [runLen]
  | cons b r => simp only [runLen]; split <;> omega
theorem runLen_le : ∀ t : Txt, runLen t ≤ t.length
  | [] => by simp [runLen]
  | [_] => by simp [runLen]
  | a :: b :: r => by
    have := runLen_le (b :: r)
    simp only [runLen, List.length_cons] at this ⊢
    split <;> omega

structure RTok where
  text : Txt
  at' : Nat

def blankC (c : UInt8) : Bool := c == 32 || c == 10

/-- The document's tokens from a place on; or the place at which none begins. (With fuel: as many rounds as there are bytes.) -/
def toksRF : Nat → Txt → Nat → Except Nat (List RTok)
  | _, [], _ => .ok []
  | 0, _ :: _, _ => .ok []
  | n + 1, c :: r, pos =>
    if blankC c then toksRF n r (pos + 1)
    else if mayT ((c :: r).take (runLen (c :: r))) then
      match toksRF n ((c :: r).drop (runLen (c :: r))) (pos + runLen (c :: r)) with
      | .ok l => .ok (⟨(c :: r).take (runLen (c :: r)), pos⟩ :: l)
      | .error e => .error e
    else .error pos
def toksR (s : Txt) (pos : Nat) : Except Nat (List RTok) := toksRF s.length s pos
theorem toksRF_more : ∀ (n m : Nat) (s : Txt) (pos : Nat), s.length ≤ n → s.length ≤ m → toksRF n s pos = toksRF m s pos
  | 0, 0, [], _, _, _ => rfl
  | 0, _ + 1, [], _, _, _ => rfl
  | _ + 1, 0, [], _, _, _ => rfl
  | _ + 1, _ + 1, [], _, _, _ => rfl
  | 0, _, c :: r, _, h, _ => by simp at h
  | _ + 1, 0, c :: r, _, _, h => by simp at h
  | n + 1, m + 1, c :: r, pos, h1, h2 => by
    have hp := runLen_pos c r
    have h1' : r.length ≤ n := by simpa using h1
    have h2' : r.length ≤ m := by simpa using h2
    simp only [toksRF]
    rw [toksRF_more n m r (pos + 1) h1' h2', toksRF_more n m ((c :: r).drop (runLen (c :: r))) (pos + runLen (c :: r)) (by rw [List.length_drop, List.length_cons]; omega) (by rw [List.length_drop, List.length_cons]; omega)]
theorem toksR_nil (pos : Nat) : toksR [] pos = .ok [] := rfl
theorem toksR_cons (c : UInt8) (r : Txt) (pos : Nat) : toksR (c :: r) pos = if blankC c then toksR r (pos + 1)
    else if mayT ((c :: r).take (runLen (c :: r))) then
      match toksR ((c :: r).drop (runLen (c :: r))) (pos + runLen (c :: r)) with
      | .ok l => .ok (⟨(c :: r).take (runLen (c :: r)), pos⟩ :: l)
      | .error e => .error e
    else .error pos := by
  have hp := runLen_pos c r
  unfold toksR
  rw [List.length_cons, toksRF, toksRF_more r.length ((c :: r).drop (runLen (c :: r))).length _ _ (by rw [List.length_drop, List.length_cons]; omega) (Nat.le_refl _)]

theorem beq_decide_u8 (c : UInt8) (n : Nat) (hn : n < 256) : ((c.toNat : Int) == (n : Int)) = (c == (UInt8.ofNat n)) := by
  rw [Bool.eq_iff_iff]
  simp only [beq_iff_eq]
  constructor
  · intro h
    apply UInt8.toNat_inj.1
    simp only [UInt8.toNat_ofNat']
    omega
  · intro h
    subst h
    simp only [UInt8.toNat_ofNat']
    omega

theorem run_more : ∀ (l : Txt) (j : Nat), 1 ≤ j → j < runLen l → sameC (l.getD (j - 1) 0) (l.getD j 0) = true
  | [], j, _, h => by simp [runLen] at h
  | [_], j, h1, h => by simp [runLen] at h; omega
  | a :: b :: r, j, h1, h => by
    simp only [runLen] at h
    split at h
    · rename_i hs
      rcases Nat.lt_or_ge 1 j with hj | hj
      · have := run_more (b :: r) (j - 1) (by omega) (by omega)
        rw [show (a :: b :: r).getD (j - 1) 0 = (b :: r).getD (j - 1 - 1) 0 by
          rw [show j - 1 = (j - 1 - 1) + 1 by omega]; rfl]
        rw [show (a :: b :: r).getD j 0 = (b :: r).getD (j - 1) 0 by
          rw [show j = (j - 1) + 1 by omega]; rfl]
        exact this
      · have : j = 1 := by omega
        subst this
        exact hs
    · omega
theorem run_stop : ∀ (l : Txt), l ≠ [] → runLen l < l.length → sameC (l.getD (runLen l - 1) 0) (l.getD (runLen l) 0) = false
  | [], h, _ => absurd rfl h
  | [_], _, h => by simp [runLen] at h
  | a :: b :: r, _, h => by
    by_cases hs : sameC a b = true
    · have e : runLen (a :: b :: r) = runLen (b :: r) + 1 := by simp [runLen, hs]
      rw [e] at h ⊢
      have hp := runLen_pos b r
      have := run_stop (b :: r) (by simp) (by simp at h ⊢; omega)
      rw [show (a :: b :: r).getD (runLen (b :: r) + 1 - 1) 0 = (b :: r).getD (runLen (b :: r) - 1) 0 by
        rw [show runLen (b :: r) + 1 - 1 = (runLen (b :: r) - 1) + 1 by omega]; rfl]
      exact this
    · have e : runLen (a :: b :: r) = 1 := by simp [runLen, hs]
      rw [e]
      simpa using hs

def preR (acc : List RTok) : Except Nat (List RTok) → Except Nat (List RTok)
  | .ok l => .ok (acc ++ l)
  | .error e => .error e
theorem preR_nil (x : Except Nat (List RTok)) : preR [] x = x := by cases x <;> rfl
theorem preR_app (a b : List RTok) (x : Except Nat (List RTok)) : preR a (preR b x) = preR (a ++ b) x := by cases x <;> simp [preR]

theorem drop_cons (s : ByteArray) (p : Nat) (hp : p < s.size) : s.toList.drop p = s[p] :: s.toList.drop (p + 1) := by
  have := getElem_toList s p hp
  rw [List.getElem?_eq_some_iff] at this
  obtain ⟨h, e⟩ := this
  rw [List.drop_eq_getElem_cons h, e]
theorem drop_getD (s : ByteArray) (p j : Nat) (h : p + j < s.size) : (s.toList.drop p).getD j 0 = s[p + j] := by
  have := getElem_toList s (p + j) h
  rw [List.getD_eq_getElem?_getD, List.getElem?_drop, this]; rfl
def tokLen (s : ByteArray) (p : Nat) : Nat := runLen (s.toList.drop p)
theorem tokLen_bd (s : ByteArray) (p : Nat) (hp : p < s.size) : 1 ≤ tokLen s p ∧ p + tokLen s p ≤ s.size := by
  unfold tokLen
  have h1 := runLen_le (s.toList.drop p)
  rw [List.length_drop, toList_length] at h1
  rw [drop_cons s p hp] at h1 ⊢
  have := runLen_pos s[p] (s.toList.drop (p + 1))
  exact ⟨this, by omega⟩
theorem tokLen_more (s : ByteArray) (p k : Nat) (hp : p < k) (hk : k < p + tokLen s p) (hs : k < s.size) : sameC (s[k - 1]'(by omega)) s[k] = true := by
  have := run_more (s.toList.drop p) (k - p) (by omega) (by unfold tokLen at hk; omega)
  rw [drop_getD s p (k - p - 1) (by omega), drop_getD s p (k - p) (by omega)] at this
  have e1 : p + (k - p - 1) = k - 1 := by omega
  have e2 : p + (k - p) = k := by omega
  simpa [e1, e2] using this
theorem tokLen_stop (s : ByteArray) (p k : Nat) (hp : p < s.size) (hk : k = p + tokLen s p) (hs : k < s.size) : sameC (s[k - 1]'(by omega)) s[k] = false := by
  have hb := tokLen_bd s p hp
  have := run_stop (s.toList.drop p) (by rw [drop_cons s p hp]; simp) (by rw [List.length_drop, toList_length]; unfold tokLen at hk; omega)
  unfold tokLen at hk hb
  rw [drop_getD s p (runLen (s.toList.drop p) - 1) (by omega), drop_getD s p (runLen (s.toList.drop p)) (by omega)] at this
  have e1 : p + (runLen (s.toList.drop p) - 1) = k - 1 := by omega
  have e2 : p + runLen (s.toList.drop p) = k := by omega
  simpa [e1, e2] using this
theorem toks_end (s : ByteArray) (p : Nat) (hp : s.size ≤ p) : toksR (s.toList.drop p) p = .ok [] := by
  rw [List.drop_eq_nil_of_le (by rw [toList_length]; omega), toksR_nil]
theorem toks_blank (s : ByteArray) (p : Nat) (hp : p < s.size) (hb : blankC s[p] = true) : toksR (s.toList.drop p) p = toksR (s.toList.drop (p + 1)) (p + 1) := by
  rw [drop_cons s p hp, toksR_cons, if_pos hb]
theorem toks_tok (s : ByteArray) (p : Nat) (hp : p < s.size) (hb : blankC s[p] = false) (hm : mayT (s.extract p (p + tokLen s p)).toList = true) :
    toksR (s.toList.drop p) p = preR [⟨(s.extract p (p + tokLen s p)).toList, p⟩] (toksR (s.toList.drop (p + tokLen s p)) (p + tokLen s p)) := by
  rw [extract_bsOf, bsOf_toList, Nat.add_sub_cancel_left] at hm ⊢
  rw [show s.toList.drop (p + tokLen s p) = (s.toList.drop p).drop (tokLen s p) by rw [List.drop_drop]]
  unfold tokLen at hm ⊢
  rw [drop_cons s p hp] at hm ⊢
  conv => lhs; rw [toksR_cons]
  rw [if_neg (by simp [hb]), if_pos hm]
  cases toksR ((s[p] :: s.toList.drop (p + 1)).drop (runLen (s[p] :: s.toList.drop (p + 1)))) (p + runLen (s[p] :: s.toList.drop (p + 1))) <;> rfl
theorem toks_bad (s : ByteArray) (p : Nat) (hp : p < s.size) (hb : blankC s[p] = false) (hm : mayT (s.extract p (p + tokLen s p)).toList = false) :
    toksR (s.toList.drop p) p = .error p := by
  rw [extract_bsOf, bsOf_toList, Nat.add_sub_cancel_left] at hm
  unfold tokLen at hm
  rw [drop_cons s p hp] at hm ⊢
  rw [toksR_cons, if_neg (by simp [hb]), if_neg (by simp [hm])]
theorem blankC_int (c : UInt8) : blankC c = ((c.toNat : Int) == 32 || (c.toNat : Int) == 10) := by
  unfold blankC
  rw [show ((c.toNat : Int) == 32) = (c == 32) from beq_decide_u8 c 32 (by omega), show ((c.toNat : Int) == 10) = (c == 10) from beq_decide_u8 c 10 (by omega)]
theorem isDig_int (c : UInt8) : isDig c = (decide ((48 : Int) ≤ c.toNat) && decide ((c.toNat : Int) ≤ 57)) := by
  unfold isDig; rw [Bool.eq_iff_iff]; simp [UInt8.le_iff_toNat_le]; omega
theorem isLet_int (c : UInt8) : isLet c = (decide ((97 : Int) ≤ c.toNat) && decide ((c.toNat : Int) ≤ 122)) := by
  unfold isLet; rw [Bool.eq_iff_iff]; simp [UInt8.le_iff_toNat_le]; omega
theorem u8_eq_int (c : UInt8) (n : Nat) (hn : n < 256) : (c == UInt8.ofNat n) = decide ((c.toNat : Int) = (n : Int)) := by
  rw [← beq_decide_u8 c n hn]; rfl
end Go.Proofs.YtffpmkgjnjdbaabGreatDoor

set_option linter.unusedVariables false
set_option linter.unusedSimpArgs false
namespace Go.Proofs.YtffpmkgjnjdbaabGreatDoor

structure Spot where
  next : Nat
  expr : Nat
  opn : Nat

def cWhen : Txt := [119, 104, 101, 110]
def cScore : Txt := [115, 99, 111, 114, 101]
def cReject : Txt := [114, 101, 106, 101, 99, 116]
def cLet : Txt := [108, 101, 116]
def cNot : Txt := [110, 111, 116]
def cAnd : Txt := [97, 110, 100]
def cOr : Txt := [111, 114]
def cMinus : Txt := [45]
def cOpen : Txt := [40]
def cClose : Txt := [41]
def cSemi : Txt := [59]
def cEq : Txt := [61]

def ruleS (p : Spot) (t : Txt) (when : Bool) : Spot × Bool :=
  if t == cWhen && when then (⟨3, 1, p.opn⟩, true)
  else if t == cScore then (⟨3, 2, p.opn⟩, true)
  else if t == cReject then (⟨5, p.expr, p.opn⟩, true)
  else (p, false)
def valueS (p : Spot) (t : Txt) : Spot × Bool :=
  if t == cMinus || t == cNot then (p, true)
  else if t == cOpen then (⟨p.next, p.expr, p.opn + 1⟩, decide (p.opn + 1 ≤ 8))
  else (⟨4, p.expr, p.opn⟩, leafT t || nameT t || isDig (headC t))
def afterS (p : Spot) (t : Txt) : Spot × Bool :=
  if jointT t then (⟨3, p.expr, p.opn⟩, true)
  else if p.opn > 0 then (⟨p.next, p.expr, p.opn - 1⟩, t == cClose)
  else if p.expr = 1 then ruleS p t false
  else if p.expr = 0 then (⟨0, p.expr, p.opn⟩, t == cSemi)
  else (⟨6, p.expr, p.opn⟩, t == cSemi)
def stepS (p : Spot) (t : Txt) : Spot × Bool :=
  if p.next = 0 then (if t == cLet then (⟨1, p.expr, p.opn⟩, true) else ruleS p t true)
  else if p.next = 1 then (⟨2, p.expr, p.opn⟩, nameT t)
  else if p.next = 2 then (⟨3, 0, p.opn⟩, t == cEq)
  else if p.next = 3 then valueS p t
  else if p.next = 4 then afterS p t
  else if p.next = 5 then (⟨6, p.expr, p.opn⟩, t == cSemi)
  else ruleS p t true

/-- Through all tokens: where they end, or the place of the first that can't stand there. -/
def goS : Spot → List RTok → Except Nat Spot
  | p, [] => .ok p
  | p, t :: r => if (stepS p t.text).2 then goS (stepS p t.text).1 r else .error t.at'

/-- Tokened: the tokens of a text that is a policy; the error and its place. -/
abbrev Toked := Except (Int × Nat) (List RTok)
abbrev Toked.fine (l : List RTok) : Toked := .ok l
abbrev Toked.bad (e : Int) (place : Nat) : Toked := .error (e, place)
def tokened (s : Txt) : Toked :=
  if s.length > 400 then Toked.bad 1 0
  else match toksR s 0 with
    | .error p => Toked.bad 2 p
    | .ok l => match goS ⟨0, 0, 0⟩ l with
      | .error p => Toked.bad 3 p
      | .ok q => if q.next = 6 then Toked.fine l else Toked.bad 3 s.length
theorem ruleS_opn (p : Spot) (t : Txt) (b : Bool) : (ruleS p t b).1.opn = p.opn := by
  unfold ruleS
  split
  · rfl
  · split
    · rfl
    · split <;> rfl
theorem valueS_opn (p : Spot) (t : Txt) (h : p.opn ≤ 8) (hs : (valueS p t).2 = true) : (valueS p t).1.opn ≤ 8 := by
  unfold valueS at hs ⊢
  split at hs
  · rename_i h1; rw [if_pos h1]; exact h
  · rename_i h1
    rw [if_neg h1]
    split at hs
    · rename_i h2; rw [if_pos h2]; simpa using hs
    · rename_i h2; rw [if_neg h2]; exact h
theorem afterS_opn (p : Spot) (t : Txt) (h : p.opn ≤ 8) : (afterS p t).1.opn ≤ 8 := by
  unfold afterS
  split
  · exact h
  · split
    · show p.opn - 1 ≤ 8; omega
    · split
      · rw [ruleS_opn]; exact h
      · split <;> exact h
theorem stepS_open (p : Spot) (t : Txt) (h : p.opn ≤ 8) (hs : (stepS p t).2 = true) : (stepS p t).1.opn ≤ 8 := by
  unfold stepS at hs ⊢
  by_cases h0 : p.next = 0
  · rw [if_pos h0]; split
    · exact h
    · rw [ruleS_opn]; exact h
  · rw [if_neg h0] at hs ⊢
    by_cases h1 : p.next = 1
    · rw [if_pos h1]; exact h
    · rw [if_neg h1] at hs ⊢
      by_cases h2 : p.next = 2
      · rw [if_pos h2]; exact h
      · rw [if_neg h2] at hs ⊢
        by_cases h3 : p.next = 3
        · rw [if_pos h3] at hs ⊢; exact valueS_opn p t h hs
        · rw [if_neg h3] at hs ⊢
          by_cases h4 : p.next = 4
          · rw [if_pos h4]; exact afterS_opn p t h
          · rw [if_neg h4] at hs ⊢
            by_cases h5 : p.next = 5
            · rw [if_pos h5]; exact h
            · rw [if_neg h5]; rw [ruleS_opn]; exact h
theorem ruleS_expr (p : Spot) (t : Txt) (b : Bool) (h : p.expr ≤ 2) : (ruleS p t b).1.expr ≤ 2 := by
  unfold ruleS
  split
  · show 1 ≤ 2; omega
  · split
    · show 2 ≤ 2; omega
    · split <;> exact h
theorem stepS_expr (p : Spot) (t : Txt) (h : p.expr ≤ 2) : (stepS p t).1.expr ≤ 2 := by
  unfold stepS
  split
  · split
    · exact h
    · exact ruleS_expr p t true h
  · split
    · exact h
    · split
      · show 0 ≤ 2; omega
      · split
        · unfold valueS; split
          · exact h
          · split <;> exact h
        · split
          · unfold afterS; split
            · exact h
            · split
              · exact h
              · split
                · exact ruleS_expr p t false h
                · split <;> exact h
          · split
            · exact h
            · exact ruleS_expr p t true h
theorem ruleS_next (p : Spot) (t : Txt) (b : Bool) (h : p.next ≤ 6) : (ruleS p t b).1.next ≤ 6 := by
  unfold ruleS
  split
  · show 3 ≤ 6; omega
  · split
    · show 3 ≤ 6; omega
    · split
      · show 5 ≤ 6; omega
      · exact h
theorem stepS_next (p : Spot) (t : Txt) (h : p.next ≤ 6) : (stepS p t).1.next ≤ 6 := by
  unfold stepS
  split
  · split
    · show 1 ≤ 6; omega
    · exact ruleS_next p t true h
  · split
    · show 2 ≤ 6; omega
    · split
      · show 3 ≤ 6; omega
      · split
        · unfold valueS; split
          · exact h
          · split
            · exact h
            · show 4 ≤ 6; omega
        · split
          · unfold afterS; split
            · show 3 ≤ 6; omega
            · split
              · exact h
              · split
                · exact ruleS_next p t false h
                · split
                  · show 0 ≤ 6; omega
                  · show 6 ≤ 6; omega
          · split
            · show 6 ≤ 6; omega
            · exact ruleS_next p t true h
theorem toks_nonempty_aux : ∀ (n : Nat) (s : Txt) (p : Nat) (l : List RTok), s.length ≤ n → toksR s p = .ok l → ∀ t ∈ l, t.text ≠ []
  | n, [], p, l, _, h => by
    rw [toksR_nil] at h
    cases h
    simp
  | 0, c :: r, _, _, hn, _ => by simp at hn
  | n + 1, c :: r, p, l, hn, h => by
    rw [toksR_cons] at h
    split at h
    · exact toks_nonempty_aux n r (p + 1) l (by simpa using hn) h
    · split at h
      · have hp := runLen_pos c r
        split at h
        · rename_i l' he
          cases h
          intro t ht
          simp only [List.mem_cons] at ht
          rcases ht with rfl | ht
          · intro e
            have := congrArg List.length e
            have h2 := runLen_le (c :: r)
            simp at this
            omega
          · refine toks_nonempty_aux n _ _ l' ?_ he t ht
            simp at hn ⊢
            omega
        · cases h
      · cases h
theorem toks_nonempty {s : Txt} {p : Nat} {l : List RTok} (h : toksR s p = .ok l) : ∀ t ∈ l, t.text ≠ [] := toks_nonempty_aux s.length s p l (Nat.le_refl _) h
end Go.Proofs.YtffpmkgjnjdbaabGreatDoor

set_option linter.unusedVariables false
set_option linter.unusedSimpArgs false
namespace Go.Proofs.YtffpmkgjnjdbaabGreatDoor
open Go.Deep

def cNeq : Txt := [33, 61]
def cLess : Txt := [60]
def cMost : Txt := [60, 61]
def cPlus : Txt := [43]
def cTimes : Txt := [42]
def cDiv : Txt := [47]
def cMod : Txt := [37]

/-- How much a token between operands binds; 0: it is none. -/
def bindsT (t : Txt) : Nat :=
  if t == cOr then 1
  else if t == cAnd then 2
  else if t == cEq || t == cNeq || t == cLess || t == cMost then 3
  else if t == cPlus || t == cMinus then 4
  else if t == cTimes || t == cDiv || t == cMod then 5
  else 0
theorem bindsT_le (t : Txt) : bindsT t ≤ 5 := by
  unfold bindsT
  split
  · omega
  · split
    · omega
    · split
      · omega
      · split
        · omega
        · split <;> omega
theorem joint_binds (t : Txt) : jointT t = true ↔ 0 < bindsT t := by
  unfold jointT tJoint bindsT cOr cAnd cEq cNeq cLess cMost cPlus cMinus cTimes cDiv cMod
  simp only [List.contains_cons, List.contains_nil, Bool.or_false, Bool.or_eq_true, beq_iff_eq]
  constructor
  · rintro (rfl | rfl | rfl | rfl | rfl | rfl | rfl | rfl | rfl | rfl | rfl) <;> decide
  · intro h
    refine Decidable.byContradiction fun hn => ?_
    simp only [not_or] at hn
    obtain ⟨n1, n2, n3, n4, n5, n6, n7, n8, n9, n10, n11⟩ := hn
    simp [n1, n2, n3, n4, n5, n6, n7, n8, n9, n10, n11] at h

/-- A tree is one of the library's: the tag in its first number (0 one token, 1 an operator of one operand, 2 of two, 3 brackets). -/
def Tr : Type := BT (RTok × RTok)
def Tr.leaf (t : RTok) : Tr := BT.node 0 0 (t, t) .nil .nil
def Tr.un (op : RTok) (e : Tr) : Tr := BT.node 1 0 (op, op) e .nil
def Tr.bin (op : RTok) (l r : Tr) : Tr := BT.node 2 0 (op, op) l r
def Tr.par (o : RTok) (e : Tr) (c : RTok) : Tr := BT.node 3 0 (o, c) e .nil
def toksB : BT (RTok × RTok) → List RTok
  | .nil => [⟨[], 0⟩]
  | .node 0 _ a _ _ => [a.1]
  | .node 1 _ a e _ => a.1 :: toksB e
  | .node 2 _ a l r => toksB l ++ a.1 :: toksB r
  | .node _ _ a e _ => a.1 :: (toksB e ++ [a.2])
def Tr.toks (t : Tr) : List RTok := toksB t
def levelB : BT (RTok × RTok) → Nat
  | .node 2 _ a _ _ => bindsT a.1.text
  | _ => 6
def Tr.level (t : Tr) : Nat := levelB t
theorem Tr.toks_leaf (t : RTok) : (Tr.leaf t).toks = [t] := rfl
theorem Tr.toks_un (op : RTok) (e : Tr) : (Tr.un op e).toks = op :: e.toks := rfl
theorem Tr.toks_bin (op : RTok) (l r : Tr) : (Tr.bin op l r).toks = l.toks ++ op :: r.toks := rfl
theorem Tr.toks_par (o : RTok) (e : Tr) (c : RTok) : (Tr.par o e c).toks = o :: (e.toks ++ [c]) := rfl
theorem Tr.level_bin (op : RTok) (l r : Tr) : (Tr.bin op l r).level = bindsT op.text := rfl
theorem Tr.level_leaf (t : RTok) : (Tr.leaf t).level = 6 := rfl
theorem Tr.level_un (op : RTok) (e : Tr) : (Tr.un op e).level = 6 := rfl
theorem Tr.level_par (o : RTok) (e : Tr) (c : RTok) : (Tr.par o e c).level = 6 := rfl
def singleT (t : Txt) : Bool := leafT t || nameT t || isDig (headC t)
def unT (t : Txt) : Bool := t == cMinus || t == cNot
def wfB : BT (RTok × RTok) → Prop
  | .nil => False
  | .node 0 o a l r => (o = 0 ∧ a.2 = a.1 ∧ l = .nil ∧ r = .nil) ∧ singleT a.1.text = true ∧ a.1.text ≠ cOpen ∧ a.1.text ≠ cClose ∧ unT a.1.text = false ∧ bindsT a.1.text = 0
  | .node 1 o a e r => (o = 0 ∧ a.2 = a.1 ∧ r = .nil) ∧ unT a.1.text = true ∧ levelB e = 6 ∧ wfB e
  | .node 2 o a l r => (o = 0 ∧ a.2 = a.1) ∧ 0 < bindsT a.1.text ∧ a.1.text ≠ cOpen ∧ a.1.text ≠ cClose ∧ bindsT a.1.text ≤ levelB l ∧ bindsT a.1.text < levelB r ∧ wfB l ∧ wfB r
  | .node 3 o a e r => (o = 0 ∧ r = .nil) ∧ a.1.text = cOpen ∧ a.2.text = cClose ∧ wfB e
  | .node (_ + 4) _ _ _ _ => False
def Tr.wf (t : Tr) : Prop := wfB t
theorem Tr.wf_leaf {t : RTok} (h : (Tr.leaf t).wf) : singleT t.text = true ∧ t.text ≠ cOpen ∧ t.text ≠ cClose ∧ unT t.text = false ∧ bindsT t.text = 0 := h.2
theorem Tr.wf_un {op : RTok} {e : Tr} (h : (Tr.un op e).wf) : unT op.text = true ∧ e.level = 6 ∧ e.wf := h.2
theorem Tr.wf_bin {op : RTok} {l r : Tr} (h : (Tr.bin op l r).wf) : 0 < bindsT op.text ∧ op.text ≠ cOpen ∧ op.text ≠ cClose ∧ bindsT op.text ≤ l.level ∧ bindsT op.text < r.level ∧ l.wf ∧ r.wf := h.2
theorem Tr.wf_par {o c : RTok} {e : Tr} (h : (Tr.par o e c).wf) : o.text = cOpen ∧ c.text = cClose ∧ e.wf := h.2
theorem indB {P : Tr → Prop} (h1 : ∀ t, (Tr.leaf t).wf → P (.leaf t)) (h2 : ∀ op e, (Tr.un op e).wf → P e → P (.un op e)) (h3 : ∀ op l r, (Tr.bin op l r).wf → P l → P r → P (.bin op l r)) (h4 : ∀ o e c, (Tr.par o e c).wf → P e → P (.par o e c)) :
    ∀ t : BT (RTok × RTok), wfB t → P t
  | .nil, h => h.elim
  | .node 0 o a l r, h => by
    obtain ⟨a1, a2⟩ := a
    have hh := h
    obtain ⟨⟨rfl, e, rfl, rfl⟩, _⟩ := h
    simp only at e
    subst e
    exact h1 _ hh
  | .node 1 o a e r, h => by
    obtain ⟨a1, a2⟩ := a
    have hh := h
    obtain ⟨⟨rfl, e', rfl⟩, _, _, he⟩ := h
    simp only at e'
    subst e'
    exact h2 _ _ hh (indB h1 h2 h3 h4 e he)
  | .node 2 o a l r, h => by
    obtain ⟨a1, a2⟩ := a
    have hh := h
    obtain ⟨⟨rfl, e'⟩, _, _, _, _, _, hl, hr⟩ := h
    simp only at e'
    subst e'
    exact h3 _ _ _ hh (indB h1 h2 h3 h4 l hl) (indB h1 h2 h3 h4 r hr)
  | .node 3 o a e r, h => by
    obtain ⟨a1, a2⟩ := a
    have hh := h
    obtain ⟨⟨rfl, rfl⟩, _, _, he⟩ := h
    exact h4 _ _ _ hh (indB h1 h2 h3 h4 e he)
  | .node (_ + 4) _ _ _ _, h => h.elim
/-- What holds of each kind of tree, its parts' given, holds of every tree that is well made. -/
theorem Tr.ind {P : Tr → Prop} (t : Tr) (h : t.wf) (h1 : ∀ t, (Tr.leaf t).wf → P (.leaf t)) (h2 : ∀ op e, (Tr.un op e).wf → P e → P (.un op e)) (h3 : ∀ op l r, (Tr.bin op l r).wf → P l → P r → P (.bin op l r)) (h4 : ∀ o e c, (Tr.par o e c).wf → P e → P (.par o e c)) : P t := indB h1 h2 h3 h4 t h
theorem Tr.cases (t : Tr) (h : t.wf) : (∃ a, t = .leaf a) ∨ (∃ op e, t = .un op e) ∨ (∃ op l r, t = .bin op l r) ∨ (∃ o e c, t = .par o e c) :=
  Tr.ind (P := fun t => (∃ a, t = .leaf a) ∨ (∃ op e, t = .un op e) ∨ (∃ op l r, t = .bin op l r) ∨ (∃ o e c, t = .par o e c)) t h (fun a _ => .inl ⟨a, rfl⟩) (fun op e _ _ => .inr (.inl ⟨op, e, rfl⟩)) (fun op l r _ _ _ => .inr (.inr (.inl ⟨op, l, r, rfl⟩))) (fun o e c _ _ => .inr (.inr (.inr ⟨o, e, c, rfl⟩)))
theorem levelB_le : ∀ t : BT (RTok × RTok), levelB t ≤ 6
  | .nil => Nat.le_refl _
  | .node 0 _ _ _ _ => Nat.le_refl _
  | .node 1 _ _ _ _ => Nat.le_refl _
  | .node 2 _ a _ _ => by have := bindsT_le a.1.text; simp only [levelB]; omega
  | .node (_ + 3) _ _ _ _ => Nat.le_refl _
theorem Tr.level_le (t : Tr) : t.level ≤ 6 := levelB_le t
theorem toksB_pos : ∀ t : BT (RTok × RTok), 1 ≤ (toksB t).length
  | .nil => by simp [toksB]
  | .node 0 _ _ _ _ => by simp [toksB]
  | .node 1 _ _ _ _ => by simp [toksB]
  | .node 2 _ _ _ _ => by simp [toksB]; omega
  | .node (_ + 3) _ _ _ _ => by simp [toksB]
theorem Tr.toks_pos (t : Tr) : 1 ≤ t.toks.length := toksB_pos t

/-- The document's root, token by token: the best place so far and how much it binds, the open brackets, is an operand wanted. -/
def rootGo : Nat → Int → Nat → Int → Bool → List RTok → Int
  | _, best, _, _, _, [] => best
  | i, best, bb, op, wants, t :: r =>
    if t.text == cOpen then rootGo (i + 1) best bb (op + 1) true r
    else if t.text == cClose then rootGo (i + 1) best bb (op - 1) false r
    else if wants && unT t.text then rootGo (i + 1) best bb op wants r
    else if 0 < bindsT t.text then
      (if op = 0 ∧ (best < 0 ∨ bindsT t.text ≤ bb) then rootGo (i + 1) i (bindsT t.text) op true r else rootGo (i + 1) best bb op true r)
    else rootGo (i + 1) best bb op false r
def rootR (l : List RTok) : Int := rootGo 0 (-1) 0 0 true l

/-- What a tree without brackets around it leaves as the best place. -/
def updB : BT (RTok × RTok) → Nat → Int × Nat → Int × Nat
  | .node 2 _ a l r, i, b =>
    updB r (i + (toksB l).length + 1) (if (updB l i b).1 < 0 ∨ bindsT a.1.text ≤ (updB l i b).2 then ((i + (toksB l).length : Nat), bindsT a.1.text) else updB l i b)
  | _, _, b => b
def Tr.upd (t : Tr) (i : Nat) (b : Int × Nat) : Int × Nat := updB t i b
theorem Tr.upd_leaf (t : RTok) (i : Nat) (b : Int × Nat) : (Tr.leaf t).upd i b = b := rfl
theorem Tr.upd_un (op : RTok) (e : Tr) (i : Nat) (b : Int × Nat) : (Tr.un op e).upd i b = b := rfl
theorem Tr.upd_par (o : RTok) (e : Tr) (c : RTok) (i : Nat) (b : Int × Nat) : (Tr.par o e c).upd i b = b := rfl
theorem Tr.upd_bin (op : RTok) (l r : Tr) (i : Nat) (b : Int × Nat) : (Tr.bin op l r).upd i b = r.upd (i + l.toks.length + 1) (if (l.upd i b).1 < 0 ∨ bindsT op.text ≤ (l.upd i b).2 then ((i + l.toks.length : Nat), bindsT op.text) else l.upd i b) := rfl

theorem scan_in (t : Tr) (h : t.wf) : ∀ (i : Nat) (best : Int) (bb : Nat) (op : Int) (r : List RTok), 0 < op →
    rootGo i best bb op true (t.toks ++ r) = rootGo (i + t.toks.length) best bb op false r := by
  refine Tr.ind (P := fun t => ∀ (i : Nat) (best : Int) (bb : Nat) (op : Int) (r : List RTok), 0 < op → rootGo i best bb op true (t.toks ++ r) = rootGo (i + t.toks.length) best bb op false r) t h ?_ ?_ ?_ ?_
  · intro t h i best bb op r hop
    obtain ⟨h1, h2, h3, h4, h5⟩ := Tr.wf_leaf h
    simp [Tr.toks_leaf, rootGo, h2, h3, h4, h5]
  · intro o e h ih i best bb op r hop
    obtain ⟨h1, h2, h3⟩ := Tr.wf_un h
    have ho : o.text ≠ cOpen ∧ o.text ≠ cClose := by
      unfold unT at h1
      simp at h1
      rcases h1 with h1 | h1 <;> rw [h1] <;> decide
    simp only [Tr.toks_un, List.cons_append, rootGo, h1, Bool.and_self, List.length_cons]
    rw [if_neg (by simpa using ho.1), if_neg (by simpa using ho.2), if_pos trivial, ih _ _ _ _ _ hop]
    congr 1; omega
  · intro o l r h ihl ihr i best bb op rest hop
    obtain ⟨h1, h2, h3, h4, h5, h6, h7⟩ := Tr.wf_bin h
    simp only [Tr.toks_bin, List.append_assoc, List.cons_append, List.length_append, List.length_cons]
    rw [ihl _ _ _ _ _ hop]
    simp only [rootGo]
    rw [if_neg (by simpa using h2), if_neg (by simpa using h3), if_neg (by simp), if_pos h1, if_neg (by omega), ihr _ _ _ _ _ hop]
    congr 1; omega
  · intro o e c h ih i best bb op r hop
    obtain ⟨h1, h2, h3⟩ := Tr.wf_par h
    simp only [Tr.toks_par, List.cons_append, List.append_assoc, List.nil_append, rootGo, h1, beq_self_eq_true, if_true]
    rw [ih _ _ _ _ _ (by omega)]
    simp only [rootGo, h2]
    rw [if_neg (by decide), if_pos (by decide)]
    simp only [List.length_cons, List.length_append, List.length_nil]
    congr 1 <;> omega
theorem upd_unit (e : Tr) (h : e.wf) (hl : e.level = 6) (j : Nat) (b : Int × Nat) : e.upd j b = b := by
  rcases e.cases h with ⟨a, rfl⟩ | ⟨op, e, rfl⟩ | ⟨op, l, r, rfl⟩ | ⟨o, e, c, rfl⟩
  · rfl
  · rfl
  · rw [Tr.level_bin] at hl; have := bindsT_le op.text; omega
  · rfl
theorem scan_at (t : Tr) (h : t.wf) : ∀ (i : Nat) (best : Int) (bb : Nat) (r : List RTok),
    rootGo i best bb 0 true (t.toks ++ r) = rootGo (i + t.toks.length) (t.upd i (best, bb)).1 (t.upd i (best, bb)).2 0 false r := by
  refine Tr.ind (P := fun t => ∀ (i : Nat) (best : Int) (bb : Nat) (r : List RTok), rootGo i best bb 0 true (t.toks ++ r) = rootGo (i + t.toks.length) (t.upd i (best, bb)).1 (t.upd i (best, bb)).2 0 false r) t h ?_ ?_ ?_ ?_
  · intro t h i best bb r
    obtain ⟨h1, h2, h3, h4, h5⟩ := Tr.wf_leaf h
    simp [Tr.toks_leaf, rootGo, h2, h3, h4, h5, Tr.upd_leaf]
  · intro o e h ih i best bb r
    obtain ⟨h1, h2, h3⟩ := Tr.wf_un h
    have ho : o.text ≠ cOpen ∧ o.text ≠ cClose := by
      unfold unT at h1
      simp at h1
      rcases h1 with h1 | h1 <;> rw [h1] <;> decide
    simp only [Tr.toks_un, List.cons_append, rootGo, h1, Bool.and_self, List.length_cons]
    rw [if_neg (by simpa using ho.1), if_neg (by simpa using ho.2), if_pos trivial, ih _ _ _ _, upd_unit e h3 h2, Tr.upd_un]
    congr 1; omega
  · intro o l r h ihl ihr i best bb rest
    obtain ⟨h1, h2, h3, h4, h5, h6, h7⟩ := Tr.wf_bin h
    simp only [Tr.toks_bin, List.append_assoc, List.cons_append, List.length_append, List.length_cons]
    rw [ihl]
    simp only [rootGo]
    rw [if_neg (by simpa using h2), if_neg (by simpa using h3), if_neg (by simp), if_pos h1]
    simp only [Tr.upd_bin, true_and]
    split
    · rw [ihr]; congr 1; omega
    · rw [ihr]; congr 1; omega
  · intro o e c h ih i best bb r
    obtain ⟨h1, h2, h3⟩ := Tr.wf_par h
    simp only [Tr.toks_par, List.cons_append, List.append_assoc, List.nil_append, rootGo, h1, beq_self_eq_true, if_true]
    rw [scan_in e h3 _ _ _ _ _ (by omega)]
    simp only [rootGo, h2]
    rw [if_neg (by decide), if_pos (by decide)]
    simp only [List.length_cons, List.length_append, List.length_nil, Tr.upd_par]
    congr 1 <;> omega
theorem upd_keep (t : Tr) (h : t.wf) : ∀ (i : Nat) (best : Int) (bb : Nat), 0 ≤ best → bb < t.level → t.upd i (best, bb) = (best, bb) := by
  refine Tr.ind (P := fun t => ∀ (i : Nat) (best : Int) (bb : Nat), 0 ≤ best → bb < t.level → t.upd i (best, bb) = (best, bb)) t h ?_ ?_ ?_ ?_
  · intro t _ i best bb _ _; rfl
  · intro o e _ _ i best bb _ _; rfl
  · intro o l r h ihl ihr i best bb hb hlt
    obtain ⟨h1, h2, h3, h4, h5, h6, h7⟩ := Tr.wf_bin h
    rw [Tr.level_bin] at hlt
    rw [Tr.upd_bin, ihl i best bb hb (by omega), if_neg (by simp; omega), ihr _ _ _ hb (by omega)]
  · intro o e c _ _ i best bb _ _; rfl
def isBinB : BT (RTok × RTok) → Bool
  | .node 2 _ _ _ _ => true
  | _ => false
def Tr.isBin (t : Tr) : Bool := isBinB t
theorem upd_bin_new (op : RTok) (l r : Tr) (h : (Tr.bin op l r).wf) (i : Nat) : (Tr.bin op l r).upd i (-1, 0) = (((i + l.toks.length : Nat) : Int), bindsT op.text) ∧ True := by
  refine ⟨?_, trivial⟩
  obtain ⟨h1, h2, h3, h4, h5, h6, h7⟩ := Tr.wf_bin h
  have key : ∀ t : Tr, t.wf → ∀ i, (t.upd i (-1, 0)).1 < 0 ∨ (t.upd i (-1, 0)).2 = t.level := by
    intro t ht
    refine Tr.ind (P := fun t => ∀ i, (t.upd i (-1, 0)).1 < 0 ∨ (t.upd i (-1, 0)).2 = t.level) t ht ?_ ?_ ?_ ?_
    · intro t _ i; left; show (-1 : Int) < 0; decide
    · intro o e _ _ i; left; show (-1 : Int) < 0; decide
    · intro o l r h ihl _ i
      obtain ⟨g1, g2, g3, g4, g5, g6, g7⟩ := Tr.wf_bin h
      right
      rw [Tr.upd_bin, if_pos, upd_keep r g7 _ _ _ (by omega) g5]
      · rfl
      · rcases ihl i with h' | h'
        · exact .inl h'
        · right; rw [h']; exact g4
    · intro o e c _ _ i; left; show (-1 : Int) < 0; decide
  rw [Tr.upd_bin, if_pos, upd_keep r h7 _ _ _ (by omega) h5]
  rcases key l h6 i with h' | h'
  · exact .inl h'
  · right; rw [h']; exact h4
theorem root_bin (op : RTok) (l r : Tr) (h : (Tr.bin op l r).wf) : rootR (Tr.bin op l r).toks = l.toks.length := by
  have := scan_at _ h 0 (-1) 0 []
  rw [List.append_nil] at this
  unfold rootR
  rw [this, rootGo, (upd_bin_new op l r h 0).1]
  simp
theorem root_none (t : Tr) (h : t.wf) (hb : t.isBin = false) : rootR t.toks = -1 := by
  have := scan_at _ h 0 (-1) 0 []
  rw [List.append_nil] at this
  unfold rootR
  rw [this, rootGo]
  rcases t.cases h with ⟨a, rfl⟩ | ⟨op, e, rfl⟩ | ⟨op, l, r, rfl⟩ | ⟨o, e, c, rfl⟩
  · rfl
  · rfl
  · cases hb
  · rfl
end Go.Proofs.YtffpmkgjnjdbaabGreatDoor

set_option linter.unusedVariables false
set_option linter.unusedSimpArgs false
namespace Go.Proofs.YtffpmkgjnjdbaabGreatDoor
open Go.Deep

def cTrue : Txt := [116, 114, 117, 101]
def cFalse : Txt := [102, 97, 108, 115, 101]
def tClass : List Txt := [[100, 114, 121], [99, 111, 108, 100], [115, 97, 102, 101], [110, 101, 101, 100], [104, 97, 115]]
def classT (t : Txt) : Bool := tClass.contains t
def madeT (op : Txt) (a b : Nat) : Nat :=
  if op == cAnd || op == cOr || op == cNot then (if a = 2 ∧ b = 2 then 2 else 0)
  else if op == cEq || op == cNeq then (if a = b then 2 else 0)
  else if a ≠ 1 ∨ b ≠ 1 then 0
  else if op == cLess || op == cMost then 2
  else 1
def leafKindT (t : Txt) : Nat := if t == cTrue || t == cFalse then 2 else if classT t then 3 else 1
theorem madeT_le (op : Txt) (a b : Nat) : madeT op a b ≤ 2 := by
  unfold madeT
  repeat' split
  all_goals omega
theorem leafKindT_le (t : Txt) : leafKindT t ≤ 3 := by
  unfold leafKindT
  repeat' split
  all_goals omega
/-- The kind of the let of that name. -/
def knownT : List (Txt × Nat) → Txt → Nat
  | [], _ => 0
  | (n, k) :: r, t => if n == t then k else knownT r t

/-- The kind of an EXPR, or the place of the first operator that does not take its operands. -/
def kindB (c : List (Txt × Nat)) : BT (RTok × RTok) → Except Nat Nat
  | .nil => .ok 0
  | .node 0 _ a _ _ => .ok (if nameT a.1.text then knownT c a.1.text else leafKindT a.1.text)
  | .node 1 _ a e _ => match kindB c e with
    | .error p => .error p
    | .ok b => if madeT a.1.text b b = 0 then .error a.1.at' else .ok (madeT a.1.text b b)
  | .node 2 _ a l r => match kindB c l with
    | .error p => .error p
    | .ok x => match kindB c r with
      | .error p => .error p
      | .ok b => if madeT a.1.text x b = 0 then .error a.1.at' else .ok (madeT a.1.text x b)
  | .node (_ + 3) _ _ e _ => kindB c e
def kindT (c : List (Txt × Nat)) (t : Tr) : Except Nat Nat := kindB c t
theorem kindT_leaf (c : List (Txt × Nat)) (t : RTok) : kindT c (.leaf t) = .ok (if nameT t.text then knownT c t.text else leafKindT t.text) := rfl
theorem kindT_un (c : List (Txt × Nat)) (op : RTok) (e : Tr) : kindT c (.un op e) = match kindT c e with
    | .error p => .error p
    | .ok b => if madeT op.text b b = 0 then .error op.at' else .ok (madeT op.text b b) := rfl
theorem kindT_bin (c : List (Txt × Nat)) (op : RTok) (l r : Tr) : kindT c (.bin op l r) = match kindT c l with
    | .error p => .error p
    | .ok a => match kindT c r with
      | .error p => .error p
      | .ok b => if madeT op.text a b = 0 then .error op.at' else .ok (madeT op.text a b) := rfl
theorem kindT_par (c : List (Txt × Nat)) (o : RTok) (e : Tr) (cl : RTok) : kindT c (.par o e cl) = kindT c e := rfl
end Go.Proofs.YtffpmkgjnjdbaabGreatDoor

set_option linter.unusedVariables false
set_option linter.unusedSimpArgs false
namespace Go.Proofs.YtffpmkgjnjdbaabGreatDoor

def thereN (there : List Txt) (late : Txt) (t : Txt) : List Txt := if t == cSemi && !(late == []) then there ++ [late] else there
def lateN (late : Txt) (t : Txt) : Txt := if t == cSemi && !(late == []) then [] else late
def namesGo : List Txt → Txt → Txt → List RTok → Option Nat
  | _, _, _, [] => none
  | there, late, prev, t :: r =>
    if nameT t.text then
      if ((thereN there late t.text).contains t.text) == (prev == cLet) then some t.at'
      else namesGo (thereN there late t.text) (if prev == cLet then t.text else lateN late t.text) t.text r
    else namesGo (thereN there late t.text) (lateN late t.text) t.text r
def placeV : Option Nat → Int
  | none => -1
  | some p => p
theorem name_not_semi {t : Txt} (h : nameT t = true) : (t == cSemi) = false := by
  cases hs : (t == cSemi)
  · rfl
  · have : t = cSemi := by simpa using hs
    subst this
    revert h; decide
theorem thereN_semi {there : List Txt} {late t : Txt} (h : (t == cSemi) = true) (hl : (late == []) = false) : thereN there late t = there ++ [late] ∧ lateN late t = [] := by simp [thereN, lateN, h, hl]
theorem thereN_no {there : List Txt} {late t : Txt} (h : (t == cSemi) = false ∨ (late == []) = true) : thereN there late t = there ∧ lateN late t = late := by
  rcases h with h | h
  · simp [thereN, lateN, h]
  · simp [thereN, lateN, h]
end Go.Proofs.YtffpmkgjnjdbaabGreatDoor

set_option linter.unusedVariables false
set_option linter.unusedSimpArgs false
namespace Go.Proofs.YtffpmkgjnjdbaabGreatDoor

structure LetD where
  kw : RTok
  name : RTok
  eq : RTok
  e : Tr
  semi : RTok
structure RuleD where
  wh : Option (RTok × Tr)
  act : RTok
  sc : Option Tr
  semi : RTok
/-- A statement: a LET or a RULE. -/
def RSt : Type := Sum LetD RuleD
def RSt.letS (kw name eq : RTok) (e : Tr) (semi : RTok) : RSt := Sum.inl ⟨kw, name, eq, e, semi⟩
def RSt.rule (wh : Option (RTok × Tr)) (act : RTok) (sc : Option Tr) (semi : RTok) : RSt := Sum.inr ⟨wh, act, sc, semi⟩
theorem RSt.cases (s : RSt) : (∃ kw name eq e semi, s = .letS kw name eq e semi) ∨ (∃ wh act sc semi, s = .rule wh act sc semi) := by
  rcases s with ⟨kw, name, eq, e, semi⟩ | ⟨wh, act, sc, semi⟩
  · exact .inl ⟨kw, name, eq, e, semi, rfl⟩
  · exact .inr ⟨wh, act, sc, semi, rfl⟩
def optToks : Option Tr → List RTok
  | none => []
  | some e => e.toks
def whToks : Option (RTok × Tr) → List RTok
  | none => []
  | some (k, e) => k :: e.toks
def RSt.body (s : RSt) : List RTok := Sum.elim (fun d : LetD => d.kw :: d.name :: d.eq :: d.e.toks) (fun d : RuleD => whToks d.wh ++ d.act :: optToks d.sc) s
def RSt.semi (s : RSt) : RTok := Sum.elim LetD.semi RuleD.semi s
theorem RSt.body_let (kw name eq : RTok) (e : Tr) (semi : RTok) : (RSt.letS kw name eq e semi).body = kw :: name :: eq :: e.toks := rfl
theorem RSt.body_rule (wh : Option (RTok × Tr)) (act : RTok) (sc : Option Tr) (semi : RTok) : (RSt.rule wh act sc semi).body = whToks wh ++ act :: optToks sc := rfl
def RSt.toks (s : RSt) : List RTok := s.body ++ [s.semi]
def toksL (l : List RSt) : List RTok := l.flatMap RSt.toks
def RSt.isLet (s : RSt) : Bool := Sum.elim (fun _ : LetD => true) (fun _ : RuleD => false) s
def RSt.wf (s : RSt) : Prop := Sum.elim (fun d : LetD => d.kw.text = cLet ∧ nameT d.name.text = true ∧ d.eq.text = cEq ∧ d.e.wf ∧ d.semi.text = cSemi) (fun d : RuleD => (∀ k e, d.wh = some (k, e) → k.text = cWhen ∧ e.wf) ∧ d.act.text = (if d.sc.isSome then cScore else cReject) ∧ (∀ e, d.sc = some e → e.wf) ∧ d.semi.text = cSemi) s
theorem toksL_append (a b : List RSt) : toksL (a ++ b) = toksL a ++ toksL b := by simp [toksL]
theorem toksL_cons (a : RSt) (b : List RSt) : toksL (a :: b) = a.toks ++ toksL b := by simp [toksL]
theorem RSt.body_pos (s : RSt) : 1 ≤ s.body.length := by
  rcases s.cases with ⟨kw, name, eq, e, semi, rfl⟩ | ⟨wh, act, sc, semi, rfl⟩
  · simp [RSt.body_let]
  · simp [RSt.body_rule]; omega
theorem RSt.toks_length (s : RSt) : s.toks.length = s.body.length + 1 := by simp [RSt.toks]

/-- What stands in no EXPR. -/
def plainE (t : Txt) : Prop := t ≠ cSemi ∧ t ≠ cLet ∧ t ≠ cWhen ∧ t ≠ cScore ∧ t ≠ cReject
theorem single_plain {t : Txt} (h : singleT t = true) : plainE t := by
  refine ⟨?_, ?_, ?_, ?_, ?_⟩ <;> (intro e; subst e; revert h; decide)
theorem un_plain {t : Txt} (h : unT t = true) : plainE t := by
  refine ⟨?_, ?_, ?_, ?_, ?_⟩ <;> (intro e; subst e; revert h; decide)
theorem bin_plain {t : Txt} (h : 0 < bindsT t) : plainE t := by
  refine ⟨?_, ?_, ?_, ?_, ?_⟩ <;> (intro e; subst e; revert h; decide)
theorem Tr.plain (t : Tr) (h : t.wf) : ∀ x ∈ t.toks, plainE x.text := by
  refine Tr.ind (P := fun t => ∀ x ∈ t.toks, plainE x.text) t h ?_ ?_ ?_ ?_
  · intro a h x hx; simp [Tr.toks_leaf] at hx; subst hx; exact single_plain (Tr.wf_leaf h).1
  · intro op e h ih x hx
    simp only [Tr.toks_un, List.mem_cons] at hx
    rcases hx with rfl | hx
    · exact un_plain (Tr.wf_un h).1
    · exact ih x hx
  · intro op l r h ihl ihr x hx
    simp only [Tr.toks_bin, List.mem_append, List.mem_cons] at hx
    rcases hx with hx | rfl | hx
    · exact ihl x hx
    · exact bin_plain (Tr.wf_bin h).1
    · exact ihr x hx
  · intro o e c h ih x hx
    simp only [Tr.toks_par, List.mem_cons, List.mem_append, List.mem_nil_iff, or_false] at hx
    rcases hx with rfl | hx | rfl
    · rw [(Tr.wf_par h).1]; refine ⟨?_, ?_, ?_, ?_, ?_⟩ <;> decide
    · exact ih x hx
    · rw [(Tr.wf_par h).2.1]; refine ⟨?_, ?_, ?_, ?_, ?_⟩ <;> decide
theorem RSt.body_no_semi (s : RSt) (h : s.wf) : ∀ x ∈ s.body, x.text ≠ cSemi := by
  intro x hx
  rcases s.cases with ⟨kw, name, eq, e, semi, rfl⟩ | ⟨wh, act, sc, semi, rfl⟩
  · simp only [RSt.body_let, List.mem_cons] at hx
    rcases hx with rfl | rfl | rfl | hx
    · rw [h.1]; decide
    · intro e'; have := name_not_semi h.2.1; rw [e'] at this; revert this; decide
    · rw [h.2.2.1]; decide
    · exact (e.plain h.2.2.2.1 x hx).1
  · simp only [RSt.body_rule, List.mem_append, List.mem_cons] at hx
    rcases hx with hx | rfl | hx
    · cases wh with
      | none => simp [whToks] at hx
      | some p =>
        obtain ⟨k, e⟩ := p
        simp only [whToks, List.mem_cons] at hx
        rcases hx with rfl | hx
        · rw [(h.1 x e rfl).1]; decide
        · exact (e.plain (h.1 k e rfl).2 x hx).1
    · rw [h.2.1]; split <;> decide
    · cases sc with
      | none => simp [optToks] at hx
      | some e => exact (e.plain (h.2.2.1 e rfl) x hx).1
theorem RSt.semi_text (s : RSt) (h : s.wf) : s.semi.text = cSemi := by
  rcases s.cases with ⟨kw, name, eq, e, semi, rfl⟩ | ⟨wh, act, sc, semi, rfl⟩
  · exact h.2.2.2.2
  · exact h.2.2.2

def All2 {α β : Type} (R : α → β → Prop) : List α → List β → Prop
  | [], [] => True
  | a :: as, b :: bs => R a b ∧ All2 R as bs
  | _, _ => False
theorem All2.len {α β : Type} {R : α → β → Prop} : ∀ {as : List α} {bs : List β}, All2 R as bs → as.length = bs.length
  | [], [], _ => rfl
  | _ :: _, _ :: _, h => by simp [All2.len h.2]
  | [], _ :: _, h => h.elim
  | _ :: _, [], h => h.elim
theorem All2.mono {α β : Type} {R S : α → β → Prop} (hrs : ∀ a b, R a b → S a b) : ∀ {as : List α} {bs : List β}, All2 R as bs → All2 S as bs
  | [], [], _ => trivial
  | _ :: _, _ :: _, h => ⟨hrs _ _ h.1, All2.mono hrs h.2⟩
  | [], _ :: _, h => h.elim
  | _ :: _, [], h => h.elim
theorem All2.snoc {α β : Type} {R : α → β → Prop} : ∀ {as : List α} {bs : List β} {a : α} {b : β}, All2 R as bs → R a b → All2 R (as ++ [a]) (bs ++ [b])
  | [], [], _, _, _, h => ⟨h, trivial⟩
  | _ :: _, _ :: _, _, _, h, h' => ⟨h.1, All2.snoc h.2 h'⟩
  | [], _ :: _, _, _, h, _ => h.elim
  | _ :: _, [], _, _, h, _ => h.elim
theorem All2.get {α β : Type} {R : α → β → Prop} : ∀ {as : List α} {bs : List β}, All2 R as bs → ∀ (i : Nat) (h : i < as.length) (h' : i < bs.length), R as[i] bs[i]
  | _ :: _, _ :: _, h, 0, _, _ => h.1
  | _ :: _, _ :: _, h, i + 1, h1, h2 => All2.get h.2 i (by simpa using h1) (by simpa using h2)
  | [], _ :: _, h, _, _, _ => h.elim
  | _ :: _, [], h, _, _, _ => h.elim

/-- Where in the statements the token of that number stands. -/
theorem toksL_at (done todo : List RSt) (s : RSt) (j : Nat) (hj : j ≤ s.body.length) (l : List RTok) (hl : l = toksL (done ++ s :: todo)) (h : (toksL done).length + j < l.length) :
    (j < s.body.length → ∃ h', l[(toksL done).length + j] = s.body[j]'h') ∧ (j = s.body.length → l[(toksL done).length + j] = s.semi) := by
  subst hl
  have e : toksL (done ++ s :: todo) = toksL done ++ (s.body ++ ([s.semi] ++ toksL todo)) := by
    rw [toksL_append, toksL_cons, RSt.toks]; simp
  constructor
  · intro hlt
    refine ⟨hlt, ?_⟩
    simp only [e]
    rw [List.getElem_append_right (by omega)]
    simp only [Nat.add_sub_cancel_left]
    rw [List.getElem_append_left hlt]
  · intro he
    simp only [e]
    rw [List.getElem_append_right (by omega)]
    simp only [Nat.add_sub_cancel_left]
    rw [List.getElem_append_right (by omega)]
    simp [he]
end Go.Proofs.YtffpmkgjnjdbaabGreatDoor

set_option linter.unusedVariables false
set_option linter.unusedSimpArgs false
namespace Go.Proofs.YtffpmkgjnjdbaabGreatDoor

def partFold : List (Txt × Nat) → Nat → Txt → Nat
  | [], k, _ => k
  | (n, s) :: r, k, t => partFold r (if n == t then s else k) t
def partOne (ps : List (Txt × Nat)) (t : Txt) : Nat := partFold ps (if t == cOpen || t == cClose then 0 else 1) t
def partsGo (ps : List (Txt × Nat)) : Nat → List RTok → Nat
  | n, [] => n
  | n, t :: r => if n + partOne ps t.text > 150 then 151 else partsGo ps (n + partOne ps t.text) r
theorem partFold_le (ps : List (Txt × Nat)) (hp : ∀ p ∈ ps, p.2 ≤ 151) : ∀ (k : Nat) (t : Txt), k ≤ 151 → partFold ps k t ≤ 151 := by
  induction ps with
  | nil => intro k t h; exact h
  | cons p r ih =>
    intro k t h
    obtain ⟨n, s⟩ := p
    simp only [partFold]
    refine ih (fun q hq => hp q (by simp [hq])) _ _ ?_
    have := hp (n, s) (by simp)
    split <;> simp_all
theorem partOne_le (ps : List (Txt × Nat)) (hp : ∀ p ∈ ps, p.2 ≤ 151) (t : Txt) : partOne ps t ≤ 151 := by
  unfold partOne
  refine partFold_le ps hp _ t ?_
  split <;> omega
theorem partsGo_le (ps : List (Txt × Nat)) : ∀ (l : List RTok) (n : Nat), n ≤ 150 → partsGo ps n l ≤ 151
  | [], n, h => by simp only [partsGo]; omega
  | t :: r, n, h => by
    simp only [partsGo]
    split
    · omega
    · exact partsGo_le ps r _ (by omega)
/-- The names and sizes of the lets, one by one. -/
def sizesGo : List (Txt × Nat) → List RSt → List (Txt × Nat)
  | ps, [] => ps
  | ps, s :: r => sizesGo (Sum.elim (fun d : LetD => ps ++ [(d.name.text, partsGo ps 0 d.e.toks)]) (fun _ : RuleD => ps) s) r
def rulePartsGo (ps : List (Txt × Nat)) : List RSt → Nat
  | [] => 0
  | s :: r => Sum.elim (fun _ : LetD => 0) (fun d : RuleD => partsGo ps 0 (optToks (d.wh.map Prod.snd)) + partsGo ps 0 (optToks d.sc)) s + rulePartsGo ps r
theorem sizesGo_let (ps : List (Txt × Nat)) (kw name eq : RTok) (e : Tr) (semi : RTok) (r : List RSt) : sizesGo ps (.letS kw name eq e semi :: r) = sizesGo (ps ++ [(name.text, partsGo ps 0 e.toks)]) r := rfl
theorem rulePartsGo_rule (ps : List (Txt × Nat)) (wh : Option (RTok × Tr)) (act : RTok) (sc : Option Tr) (semi : RTok) (r : List RSt) : rulePartsGo ps (.rule wh act sc semi :: r) = partsGo ps 0 (optToks (wh.map Prod.snd)) + partsGo ps 0 (optToks sc) + rulePartsGo ps r := rfl
def bigT (lets rules : List RSt) : Bool := decide (rulePartsGo (sizesGo [] lets) rules > 150)
end Go.Proofs.YtffpmkgjnjdbaabGreatDoor

set_option linter.unusedVariables false
set_option linter.unusedSimpArgs false
namespace Go.Proofs.YtffpmkgjnjdbaabGreatDoor

def letsK : List (Txt × Nat) → List RSt → Except Nat (List (Txt × Nat))
  | c, [] => .ok c
  | c, s :: r => Sum.elim (fun d : LetD => match kindT c d.e with
      | .error p => .error p
      | .ok k => letsK (c ++ [(d.name.text, k)]) r) (fun _ : RuleD => letsK c r) s
def firstAt (t : Tr) : Nat := ((t.toks[0]?).map RTok.at').getD 0
def exprK (c : List (Txt × Nat)) (want : Nat) : Option Tr → Option Nat
  | none => none
  | some e => match kindT c e with
    | .error p => some p
    | .ok k => if k = want then none else some (firstAt e)
def rulesK (c : List (Txt × Nat)) : List RSt → Option Nat
  | [] => none
  | s :: r => Sum.elim (fun _ : LetD => rulesK c r) (fun d : RuleD => match exprK c 2 (d.wh.map Prod.snd) with
      | some p => some p
      | none => match exprK c 1 d.sc with
        | some p => some p
        | none => rulesK c r) s
theorem letsK_let (c : List (Txt × Nat)) (kw name eq : RTok) (e : Tr) (semi : RTok) (r : List RSt) : letsK c (.letS kw name eq e semi :: r) = match kindT c e with
    | .error p => .error p
    | .ok k => letsK (c ++ [(name.text, k)]) r := rfl
theorem rulesK_rule (c : List (Txt × Nat)) (wh : Option (RTok × Tr)) (act : RTok) (sc : Option Tr) (semi : RTok) (r : List RSt) : rulesK c (.rule wh act sc semi :: r) = match exprK c 2 (wh.map Prod.snd) with
    | some p => some p
    | none => match exprK c 1 sc with
      | some p => some p
      | none => rulesK c r := rfl
def wrongT (lets rules : List RSt) : Option Nat := match letsK [] lets with
  | .error p => some p
  | .ok c => rulesK c rules
theorem letsK_err {c : List (Txt × Nat)} {kw name eq : RTok} {e : Tr} {semi : RTok} {r : List RSt} {p : Nat} (h : kindT c e = .error p) : letsK c (.letS kw name eq e semi :: r) = .error p := by simp only [letsK_let, h]
theorem letsK_ok {c : List (Txt × Nat)} {kw name eq : RTok} {e : Tr} {semi : RTok} {r : List RSt} {k : Nat} (h : kindT c e = .ok k) : letsK c (.letS kw name eq e semi :: r) = letsK (c ++ [(name.text, k)]) r := by simp only [letsK_let, h]
theorem wrongT_err {L R : List RSt} {p : Nat} (h : letsK [] L = .error p) : wrongT L R = some p := by simp only [wrongT, h]
theorem wrongT_ok {L R : List RSt} {c : List (Txt × Nat)} (h : letsK [] L = .ok c) : wrongT L R = rulesK c R := by simp only [wrongT, h]
theorem rulesK_w {c : List (Txt × Nat)} {wh : Option (RTok × Tr)} {act : RTok} {sc : Option Tr} {semi : RTok} {r : List RSt} {p : Nat} (h : exprK c 2 (wh.map Prod.snd) = some p) : rulesK c (.rule wh act sc semi :: r) = some p := by simp only [rulesK_rule, h]
theorem rulesK_s {c : List (Txt × Nat)} {wh : Option (RTok × Tr)} {act : RTok} {sc : Option Tr} {semi : RTok} {r : List RSt} {p : Nat} (h : exprK c 2 (wh.map Prod.snd) = none) (h2 : exprK c 1 sc = some p) : rulesK c (.rule wh act sc semi :: r) = some p := by simp only [rulesK_rule, h, h2]
theorem rulesK_n {c : List (Txt × Nat)} {wh : Option (RTok × Tr)} {act : RTok} {sc : Option Tr} {semi : RTok} {r : List RSt} (h : exprK c 2 (wh.map Prod.snd) = none) (h2 : exprK c 1 sc = none) : rulesK c (.rule wh act sc semi :: r) = rulesK c r := by simp only [rulesK_rule, h, h2]
end Go.Proofs.YtffpmkgjnjdbaabGreatDoor

set_option linter.unusedVariables false
set_option linter.unusedSimpArgs false
namespace Go.Proofs.YtffpmkgjnjdbaabGreatDoor

def tWords : List Txt := [[108, 101, 116], [119, 104, 101, 110], [115, 99, 111, 114, 101], [114, 101, 106, 101, 99, 116], [97, 110, 100], [111, 114], [110, 111, 116], [116, 114, 117, 101], [102, 97, 108, 115, 101], [100, 114, 121], [99, 111, 108, 100], [115, 97, 102, 101], [115, 105, 122, 101], [115, 112, 101, 101, 100], [110, 101, 101, 100], [122, 111, 110, 101], [99, 97, 112], [117, 115, 101, 100], [104, 97, 115]]
def digitRowT (t : Txt) : Nat := (t.takeWhile isDig).length
def letterRowT (t : Txt) : Nat := (t.takeWhile isLet).length
def wordGo : List Txt → Nat → Txt → Nat
  | [], _, _ => 2
  | x :: r, i, t => if x == t then 3 + i else wordGo r (i + 1) t
def wordKindT (t : Txt) : Nat := wordGo tWords 0 t
def signGo : List Txt → Nat → Nat → Nat → Txt → Nat × Nat
  | [], _, k, n, _ => (k, n)
  | x :: r, i, k, n, t => if n < x.length ∧ x.length ≤ t.length ∧ (t.take x.length == x) = true then signGo r (i + 1) (22 + i) x.length t else signGo r (i + 1) k n t
def firstSignT (t : Txt) : Nat × Nat := signGo tSign 0 0 0 t
def firstT (t : Txt) : Nat × Nat :=
  if 18 < digitRowT t then (0, 0)
  else if 0 < digitRowT t then (1, digitRowT t)
  else if 8 < letterRowT t then (0, 0)
  else if 0 < letterRowT t then (wordKindT (t.take (letterRowT t)), letterRowT t)
  else firstSignT t
structure PTok where
  kind : Nat
  place : Nat
  text : Txt
theorem takeWhile_length_le (p : UInt8 → Bool) (t : Txt) : (t.takeWhile p).length ≤ t.length := (List.takeWhile_sublist p).length_le
theorem signGo_le : ∀ (l : List Txt) (i k n : Nat) (t : Txt), n ≤ t.length → (signGo l i k n t).2 ≤ t.length
  | [], _, _, _, _, h => h
  | x :: r, i, k, n, t, h => by
    simp only [signGo]
    split
    · rename_i hc; exact signGo_le r _ _ _ t hc.2.1
    · exact signGo_le r _ _ _ t h
theorem firstT_le (t : Txt) : (firstT t).2 ≤ t.length := by
  unfold firstT
  split
  · exact Nat.zero_le _
  · split
    · exact takeWhile_length_le _ _
    · split
      · exact Nat.zero_le _
      · split
        · exact takeWhile_length_le _ _
        · exact signGo_le _ _ _ _ t (Nat.zero_le _)
def toksPF : Nat → Txt → Nat → Except Nat (List PTok)
  | _, [], pos => .ok [⟨0, pos, []⟩]
  | 0, _ :: _, _ => .ok []
  | n + 1, c :: r, pos =>
    if blankC c then toksPF n r (pos + 1)
    else if (firstT (c :: r)).2 = 0 then .error pos
    else match toksPF n ((c :: r).drop (firstT (c :: r)).2) (pos + (firstT (c :: r)).2) with
      | .ok l => .ok (⟨(firstT (c :: r)).1, pos, (c :: r).take (firstT (c :: r)).2⟩ :: l)
      | .error e => .error e
def toksP (s : Txt) (pos : Nat) : Except Nat (List PTok) := toksPF s.length s pos
theorem toksPF_more : ∀ (n m : Nat) (s : Txt) (pos : Nat), s.length ≤ n → s.length ≤ m → toksPF n s pos = toksPF m s pos
  | 0, 0, [], _, _, _ => rfl
  | 0, _ + 1, [], _, _, _ => rfl
  | _ + 1, 0, [], _, _, _ => rfl
  | _ + 1, _ + 1, [], _, _, _ => rfl
  | 0, _, c :: r, _, h, _ => by simp at h
  | _ + 1, 0, c :: r, _, _, h => by simp at h
  | n + 1, m + 1, c :: r, pos, h1, h2 => by
    have h1' : r.length ≤ n := by simpa using h1
    have h2' : r.length ≤ m := by simpa using h2
    simp only [toksPF]
    by_cases h0 : (firstT (c :: r)).2 = 0
    · rw [if_pos h0, if_pos h0, toksPF_more n m r (pos + 1) h1' h2']
    · rw [if_neg h0, if_neg h0, toksPF_more n m r (pos + 1) h1' h2', toksPF_more n m ((c :: r).drop (firstT (c :: r)).2) (pos + (firstT (c :: r)).2) (by rw [List.length_drop, List.length_cons]; omega) (by rw [List.length_drop, List.length_cons]; omega)]
theorem toksP_nil (pos : Nat) : toksP [] pos = .ok [⟨0, pos, []⟩] := rfl
theorem toksP_cons (c : UInt8) (r : Txt) (pos : Nat) : toksP (c :: r) pos = if blankC c then toksP r (pos + 1)
    else if (firstT (c :: r)).2 = 0 then .error pos
    else match toksP ((c :: r).drop (firstT (c :: r)).2) (pos + (firstT (c :: r)).2) with
      | .ok l => .ok (⟨(firstT (c :: r)).1, pos, (c :: r).take (firstT (c :: r)).2⟩ :: l)
      | .error e => .error e := by
  unfold toksP
  rw [List.length_cons, toksPF]
  by_cases h0 : (firstT (c :: r)).2 = 0
  · rw [if_pos h0, if_pos h0]
  · rw [if_neg h0, if_neg h0, toksPF_more r.length ((c :: r).drop (firstT (c :: r)).2).length _ _ (by rw [List.length_drop, List.length_cons]; omega) (Nat.le_refl _)]
end Go.Proofs.YtffpmkgjnjdbaabGreatDoor

set_option linter.unusedVariables false
set_option linter.unusedSimpArgs false
namespace Go.Proofs.YtffpmkgjnjdbaabGreatDoor

theorem same_dig {a b : UInt8} (h : isDig a = true) : sameC a b = isDig b := by
  unfold sameC
  have h1 : isLet a = false := by
    unfold isDig at h; unfold isLet
    simp only [Bool.and_eq_true, decide_eq_true_eq, UInt8.le_iff_toNat_le] at h
    simp [UInt8.le_iff_toNat_le, UInt8.lt_iff_toNat_lt]
    have := h.2
    intro h'
    simp at this h'
    omega
  have h2 : (a == 60) = false ∧ (a == 33) = false := by
    constructor
    · cases h3 : (a == 60)
      · rfl
      · have : a = 60 := by simpa using h3
        subst this; revert h; decide
    · cases h3 : (a == 33)
      · rfl
      · have : a = 33 := by simpa using h3
        subst this; revert h; decide
  simp [h, h1, h2.1, h2.2]
theorem same_let {a b : UInt8} (h : isLet a = true) : sameC a b = isLet b := by
  unfold sameC
  have h1 : isDig a = false := by
    unfold isLet at h; unfold isDig
    simp only [Bool.and_eq_true, decide_eq_true_eq, UInt8.le_iff_toNat_le] at h
    simp [UInt8.le_iff_toNat_le, UInt8.lt_iff_toNat_lt]
    have := h.1
    intro h'
    simp at this h' ⊢
    omega
  have h2 : (a == 60) = false ∧ (a == 33) = false := by
    constructor
    · cases h3 : (a == 60)
      · rfl
      · have : a = 60 := by simpa using h3
        subst this; revert h; decide
    · cases h3 : (a == 33)
      · rfl
      · have : a = 33 := by simpa using h3
        subst this; revert h; decide
  simp [h, h1, h2.1, h2.2]
theorem run_dig : ∀ (r : Txt) (c : UInt8), isDig c = true → runLen (c :: r) = digitRowT (c :: r)
  | [], c, h => by simp [runLen, digitRowT, List.takeWhile, h]
  | d :: r, c, h => by
    have hs := same_dig (b := d) h
    cases hd : isDig d
    · simp [runLen, hs, hd, digitRowT, List.takeWhile, h]
    · have := run_dig r d hd
      simp only [runLen, hs, hd, if_true, this, digitRowT, List.takeWhile, h, List.length_cons]
theorem run_let : ∀ (r : Txt) (c : UInt8), isLet c = true → runLen (c :: r) = letterRowT (c :: r)
  | [], c, h => by simp [runLen, letterRowT, List.takeWhile, h]
  | d :: r, c, h => by
    have hs := same_let (b := d) h
    cases hd : isLet d
    · simp [runLen, hs, hd, letterRowT, List.takeWhile, h]
    · have := run_let r d hd
      simp only [runLen, hs, hd, if_true, this, letterRowT, List.takeWhile, h, List.length_cons]
theorem run_eq (r : Txt) : runLen (61 :: r) = 1 := by
  cases r with
  | nil => rfl
  | cons d r => simp [runLen, sameC, isDig, isLet]
def signKind : List Txt → Nat → Txt → Nat
  | [], _, _ => 0
  | x :: r, i, t => if x == t then 22 + i else signKind r (i + 1) t
/-- The kind of a token by its bytes. -/
def kindP (t : Txt) : Nat := if isDig (headC t) then 1 else if isLet (headC t) then wordKindT t else signKind tSign 0 t
theorem row_no (c : UInt8) (r : Txt) (h1 : isDig c = false) : digitRowT (c :: r) = 0 := by simp [digitRowT, List.takeWhile, h1]
theorem row_no2 (c : UInt8) (r : Txt) (h1 : isLet c = false) : letterRowT (c :: r) = 0 := by simp [letterRowT, List.takeWhile, h1]
/-- The signs' first bytes. -/
theorem sign_cases (c : UInt8) : c = 59 ∨ c = 61 ∨ c = 33 ∨ c = 60 ∨ c = 43 ∨ c = 45 ∨ c = 42 ∨ c = 47 ∨ c = 37 ∨ c = 40 ∨ c = 41 ∨ (c ≠ 59 ∧ c ≠ 61 ∧ c ≠ 33 ∧ c ≠ 60 ∧ c ≠ 43 ∧ c ≠ 45 ∧ c ≠ 42 ∧ c ≠ 47 ∧ c ≠ 37 ∧ c ≠ 40 ∧ c ≠ 41) := by
  by_cases h1 : c = 59
  · simp [h1]
  by_cases h2 : c = 61
  · simp [h2]
  by_cases h3 : c = 33
  · simp [h3]
  by_cases h4 : c = 60
  · simp [h4]
  by_cases h5 : c = 43
  · simp [h5]
  by_cases h6 : c = 45
  · simp [h6]
  by_cases h7 : c = 42
  · simp [h7]
  by_cases h8 : c = 47
  · simp [h8]
  by_cases h9 : c = 37
  · simp [h9]
  by_cases h10 : c = 40
  · simp [h10]
  by_cases h11 : c = 41
  · simp [h11]
  simp [h1, h2, h3, h4, h5, h6, h7, h8, h9, h10, h11]
theorem sign_one (c : UInt8) (r : Txt) (h1 : isDig c = false) (h2 : isLet c = false) :
    (signT ((c :: r).take (runLen (c :: r))) = true → firstSignT (c :: r) = (signKind tSign 0 ((c :: r).take (runLen (c :: r))), runLen (c :: r))) ∧
    (signT ((c :: r).take (runLen (c :: r))) = false → (firstSignT (c :: r)).2 = 0) := by
  have hrun : runLen (c :: r) = if (c = 60 ∨ c = 33) ∧ r.head? = some 61 then 2 else 1 := by
    cases r with
    | nil => simp [runLen]
    | cons d r =>
      have hs : sameC c d = ((c == 60 || c == 33) && d == 61) := by simp [sameC, h1, h2]
      by_cases hd : d = 61
      · subst hd
        have := run_eq r
        simp only [runLen, hs, this]
        by_cases hc : c = 60 ∨ c = 33
        · rcases hc with rfl | rfl <;> simp
        · simp only [not_or] at hc
          simp [hc.1, hc.2]
      · simp [runLen, hs, hd]
  rw [hrun]
  rcases sign_cases c with rfl | rfl | rfl | rfl | rfl | rfl | rfl | rfl | rfl | rfl | rfl | ⟨n1, n2, n3, n4, n5, n6, n7, n8, n9, n10, n11⟩
  all_goals
    cases r with
    | nil => simp_all [firstSignT, signGo, tSign, signT, signKind]
    | cons d r =>
      by_cases hd : d = 61
      · subst hd
        simp_all [firstSignT, signGo, tSign, signT, signKind]
      · simp_all [firstSignT, signGo, tSign, signT, signKind]

theorem head_take (c : UInt8) (r : Txt) (n : Nat) (h : 1 ≤ n) : headC ((c :: r).take n) = c := by
  cases n with
  | zero => omega
  | succ n => rfl
theorem first_tok (c : UInt8) (r : Txt) : (mayT ((c :: r).take (runLen (c :: r))) = true → firstT (c :: r) = (kindP ((c :: r).take (runLen (c :: r))), runLen (c :: r))) ∧
    (mayT ((c :: r).take (runLen (c :: r))) = false → (firstT (c :: r)).2 = 0) := by
  have hp := runLen_pos c r
  have hle := runLen_le (c :: r)
  have hlen : ((c :: r).take (runLen (c :: r))).length = runLen (c :: r) := by rw [List.length_take]; omega
  unfold mayT kindP
  rw [head_take c r _ hp, hlen]
  cases hd : isDig c
  · have h0 := row_no c r hd
    cases hl : isLet c
    · have h1 := row_no2 c r hl
      have hs := sign_one c r hd hl
      simp only [firstT, h0, h1]
      simp
      exact ⟨fun h => hs.1 h, fun h => hs.2 h⟩
    · have hr := run_let r c hl
      rw [hr] at hp ⊢
      simp only [firstT, h0]
      constructor
      · intro h
        have : letterRowT (c :: r) ≤ 8 := by simpa using h
        rw [if_neg (by omega), if_neg (by omega), if_neg (by omega), if_pos (by omega)]
        simp
      · intro h
        have : 8 < letterRowT (c :: r) := by simpa using h
        rw [if_neg (by omega), if_neg (by omega), if_pos (by omega)]
  · have hr := run_dig r c hd
    rw [hr] at hp ⊢
    simp only [firstT]
    constructor
    · intro h
      have : digitRowT (c :: r) ≤ 18 := by simpa using h
      rw [if_neg (by omega), if_pos (by omega)]
      simp
    · intro h
      have : 18 < digitRowT (c :: r) := by simpa using h
      rw [if_pos (by omega)]
def toP (t : RTok) : PTok := ⟨kindP t.text, t.at', t.text⟩
def outP (p : Nat) : Except Nat (List RTok) → Except Nat (List PTok)
  | .ok l => .ok (l.map toP ++ [⟨0, p, []⟩])
  | .error e => .error e
theorem toks_same : ∀ (n : Nat) (s : Txt) (p : Nat), s.length ≤ n → toksP s p = outP (p + s.length) (toksR s p)
  | n, [], p, _ => by rw [toksP_nil, toksR_nil]; rfl
  | 0, c :: r, p, h => by simp at h
  | n + 1, c :: r, p, h => by
    have hp := runLen_pos c r
    have hle := runLen_le (c :: r)
    have hf := first_tok c r
    rw [toksP_cons, toksR_cons]
    by_cases hb : blankC c = true
    · rw [if_pos hb, if_pos hb, toks_same n r (p + 1) (by simpa using h)]
      simp only [List.length_cons]
      congr 1; omega
    · rw [if_neg hb, if_neg hb]
      cases hm : mayT ((c :: r).take (runLen (c :: r)))
      · rw [if_pos (hf.2 hm), if_neg (by simp)]
        rfl
      · have hf1 := hf.1 hm
        rw [if_neg (by rw [hf1]; simp only; omega), if_pos rfl, hf1]
        simp only
        rw [toks_same n ((c :: r).drop (runLen (c :: r))) (p + runLen (c :: r)) (by simp at h ⊢; omega)]
        rw [show p + runLen (c :: r) + ((c :: r).drop (runLen (c :: r))).length = p + (c :: r).length by rw [List.length_drop]; omega]
        cases toksR ((c :: r).drop (runLen (c :: r))) (p + runLen (c :: r)) <;> rfl
end Go.Proofs.YtffpmkgjnjdbaabGreatDoor
