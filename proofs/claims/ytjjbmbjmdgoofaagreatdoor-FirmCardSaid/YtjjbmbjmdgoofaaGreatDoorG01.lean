/-
  Small facts on blocks of cells that a call itself has made: what they hold, what they hold behind a store.
-/
import Derived.WalkKit
import Derived.WalkSpells
import Derived.WalkLawsBesides
import Derived.Deep.QuietTactic
import Derived.BigQuiet
import Derived.Test.YtjjbmbjmdgoofaaGreatDoorG00
set_option linter.unusedVariables false
set_option linter.unusedSimpArgs false
namespace Go.Proofs.YtjjbmbjmdgoofaaGreatDoor
open Go.RowKit
def Blk (w : World) (b : Nat) (cs : Array Value) (t : TypeId) : Prop := w.heap[b]? = some (.cells cs t (0, 0))
theorem Blk.cell {w : World} {b : Nat} {cs : Array Value} {t : TypeId} (h : Blk w b cs t) (i : Nat) : w.cell? ⟨b, i, none⟩ = cs[i]? := by
  unfold Blk at h; simp [World.cell?, h]
theorem Blk.free {w : World} {b : Nat} {cs : Array Value} {t : TypeId} (h : Blk w b cs t) (i : Nat) : w.frozen? ⟨b, i, none⟩ = false := by
  unfold Blk at h; simp [World.frozen?, h]
theorem Blk.lt {w : World} {b : Nat} {cs : Array Value} {t : TypeId} (h : Blk w b cs t) : b < w.heap.size := lt_of_block h
theorem Blk.set {w : World} {b : Nat} {cs : Array Value} {t : TypeId} (h : Blk w b cs t) (i : Nat) (v : Value) : Blk (w.setCell ⟨b, i, none⟩ v) b (cs.setIfInBounds i v) t := by
  have hlt := h.lt
  have h' : w.heap[b] = .cells cs t (0, 0) := by unfold Blk at h; simpa [Array.getElem?_eq_getElem hlt] using h
  show (w.heap.modify b _)[b]? = _
  rw [Array.getElem?_eq_getElem (by simpa using hlt), Array.getElem_modify_self, h']
  rfl
theorem Blk.other {w : World} {b : Nat} {cs : Array Value} {t : TypeId} (h : Blk w b cs t) (a : Addr) (v : Value) (hne : b ≠ a.block) : Blk (w.setCell a v) b cs t := by
  unfold Blk; rw [Below.heap_setCell _ _ _ _ hne]; exact h
theorem Blk.below {w w' : World} {b B : Nat} {cs : Array Value} {t : TypeId} (h : Blk w b cs t) (hb : Below B w w') (hB : b < B) : Blk w' b cs t := by
  unfold Blk; rw [hb.block b hB]; exact h
theorem Blk.alloc {w : World} {b : Nat} {cs : Array Value} {t : TypeId} (h : Blk w b cs t) (o : Obj) : Blk (w.alloc o) b cs t :=
  h.below ((Below.refl w.heap.size w).alloc (Nat.le_refl _) o) h.lt
theorem Blk.new (w : World) (cs : Array Value) (t : TypeId) : Blk (w.alloc (.cells cs t)) w.heap.size cs t := heap_alloc_new w _
theorem Blk.drew {w : World} {b : Nat} {cs : Array Value} {t : TypeId} (h : Blk w b cs t) : Blk w.drew b cs t := h
theorem ret_bool {a b : Bool} (h : a = b) : Ending.returned (.bool a) = .returned (.bool b) := by rw [h]
theorem ret_int {k : IntKind} {a b : Int} (h : a = b) : Ending.returned (.int k a) = .returned (.int k b) := by rw [h]
def Reads (w : World) (v : Value) (n : Nat) (xs : List Value) : Prop :=
  (v = .slice none 0 0 ∧ n = 0 ∧ xs = []) ∨ ∃ b o cap, v = .slice (some ⟨b, o, none⟩) n cap ∧ n ≤ cap ∧ b < w.heap.size ∧ ∀ j u, xs[j]? = some u → w.cell? ⟨b, o + j, none⟩ = some u
theorem Reads.below {w w' : World} {v : Value} {n : Nat} {xs : List Value} (h : Reads w v n xs) (hb : Below w.heap.size w w') : Reads w' v n xs := by
  rcases h with h | ⟨b, o, cap, rfl, hn, hlt, hc⟩
  · exact .inl h
  · exact .inr ⟨b, o, cap, rfl, hn, Nat.lt_of_lt_of_le hlt hb.size, fun j u hj => (hb.cell (p := ⟨b, o + j, none⟩) hlt).trans (hc j u hj)⟩
theorem Reads.pos {w : World} {v : Value} {n : Nat} {xs : List Value} (h : Reads w v n xs) (hn : 0 < n) :
    ∃ g o cap, v = .slice (some ⟨g, o, none⟩) n cap ∧ n ≤ cap ∧ g < w.heap.size ∧ ∀ j u, xs[j]? = some u → w.cell? ⟨g, o + j, none⟩ = some u := by
  rcases h with ⟨_, h, _⟩ | h
  · omega
  · exact h
theorem Reads.alloc {w : World} {v : Value} {n : Nat} {xs : List Value} (h : Reads w v n xs) (o : Obj) : Reads (w.alloc o) v n xs := h.below ((Below.refl _ _).alloc (Nat.le_refl _) o)
theorem Reads.drew {w : World} {v : Value} {n : Nat} {xs : List Value} (h : Reads w v n xs) : Reads w.drew v n xs := h
theorem Reads.shape {w : World} {v : Value} {n : Nat} {xs : List Value} (h : Reads w v n xs) : ∃ a c, v = .slice a n c := by
  rcases h with ⟨rfl, h, _⟩ | ⟨g, o, cap, rfl, _⟩
  · exact ⟨none, 0, by rw [h]⟩
  · exact ⟨_, _, rfl⟩
theorem run_index_nat {P : Program} (w : World) (t : TypeId) (s : ByteArray) (k : IntKind) (i : Int) (n : Nat) (h : P.underlying t = some .string) (hi : i = (n : Int)) (hn : n < s.size) :
    (Instr.index t (.string s) (.int k i)).run P w = .ok (.int .u8 s[n].toNat) w := by
  subst hi
  rw [run_index_string w t s k _ h, dif_pos ⟨by omega, by omega⟩]
  simp
theorem below_drewN {B : Nat} {a w : World} (h : Below B a w) (n : Nat) : Below B a (w.drewN n) := h.trans ⟨rfl, rfl, rfl, Nat.le_refl _, fun _ _ => rfl⟩
theorem own_below {w w' : World} {base : Nat} {e : TypeId} {size : Nat} {v : Value} {n : Nat} {xs : List Value} (h : w.ownsRow base e size v n xs) (hb : Below w.heap.size w w') : w'.ownsRow base e size v n xs := by
  refine ⟨h.1, ?_⟩
  rcases h.2 with hn | ⟨g, cap, cur, rfl, hbg, hg, r⟩
  · exact .inl hn
  · exact .inr ⟨g, cap, cur, rfl, hbg, by rw [hb.block g (Array.getElem?_eq_some_iff.1 hg).1]; exact hg, r⟩
theorem reads_of_own {w : World} {base : Nat} {e : TypeId} {size : Nat} {v : Value} {n : Nat} {xs : List Value} (h : w.ownsRow base e size v n xs) : Reads w v n xs := by
  rcases h.2 with ⟨rfl, rfl⟩ | ⟨g, cap, cur, rfl, hb, hg, hnc, hcm, hcs, htk⟩
  · refine .inl ⟨rfl, rfl, ?_⟩
    have := h.1
    simpa using this
  · refine .inr ⟨g, 0, cap, rfl, hnc, lt_of_block hg, fun j u hj => ?_⟩
    have hlt : j < n * size := by
      have := h.1
      rw [List.getElem?_eq_some_iff] at hj
      obtain ⟨h1, _⟩ := hj
      omega
    rw [Nat.zero_add, h.cellAt j hlt]
    exact hj
theorem own_ne {w : World} {b1 b2 : Nat} {e1 e2 : TypeId} {s1 s2 : Nat} {v1 v2 : Value} {n1 n2 : Nat} {x1 x2 : List Value} (h1 : w.ownsRow b1 e1 s1 v1 n1 x1) (h2 : w.ownsRow b2 e2 s2 v2 n2 x2) (he : e1 ≠ e2) : v1.ownBlock = none ∨ v1.ownBlock ≠ v2.ownBlock := by
  rcases h1.2 with ⟨rfl, _⟩ | ⟨g1, c1, cur1, rfl, _, hg1, _⟩
  · exact .inl rfl
  · right
    rcases h2.2 with ⟨rfl, _⟩ | ⟨g2, c2, cur2, rfl, _, hg2, _⟩
    · simp [Value.ownBlock]
    · intro e
      simp only [Value.ownBlock, Option.some.injEq] at e
      rw [e, hg2] at hg1
      simp only [Option.some.injEq, Obj.cells.injEq] at hg1
      exact he hg1.2.1.symm
theorem one_int1 {k : IntKind} {n : Int} : ∀ u ∈ [Value.int k n], u.oneCell' = true := by
  intro u hu
  simp at hu
  subst hu
  rfl
theorem cell_one_at (w : World) (x : Value) (e : TypeId) (b : Nat) (hb : b = w.heap.size) : ∀ j u, [x][j]? = some u → (w.alloc (.cells #[x] e)).cell? ((⟨b, 0, none⟩ : Addr).add j) = some u := by
  subst hb
  exact cell_one_new w x e
end Go.Proofs.YtjjbmbjmdgoofaaGreatDoor
namespace Go.Proofs.YtjjbmbjmdgoofaaGreatDoor
open Go.Deep
end Go.Proofs.YtjjbmbjmdgoofaaGreatDoor
namespace Go.Proofs.YtjjbmbjmdgoofaaGreatDoor
theorem name_not_semi {t : Txt} (h : nameT t = true) : (t == cSemi) = false := by
  cases hs : (t == cSemi)
  · rfl
  · have : t = cSemi := by simpa using hs
    subst this
    revert h; decide
end Go.Proofs.YtjjbmbjmdgoofaaGreatDoor
namespace Go.Proofs.YtjjbmbjmdgoofaaGreatDoor
structure LetD where
  kw : RTok
  name : RTok
  eq : RTok
  e : Tr
  semi : RTok
structure RuleD where
  wh : Option (RTok × Tr)
  act : RTok
  sc : Option Tr
  semi : RTok
def RSt : Type := Sum LetD RuleD
def RSt.letS (kw name eq : RTok) (e : Tr) (semi : RTok) : RSt := Sum.inl ⟨kw, name, eq, e, semi⟩
def RSt.rule (wh : Option (RTok × Tr)) (act : RTok) (sc : Option Tr) (semi : RTok) : RSt := Sum.inr ⟨wh, act, sc, semi⟩
theorem RSt.cases (s : RSt) : (∃ kw name eq e semi, s = .letS kw name eq e semi) ∨ (∃ wh act sc semi, s = .rule wh act sc semi) := by
  rcases s with ⟨kw, name, eq, e, semi⟩ | ⟨wh, act, sc, semi⟩
  · exact .inl ⟨kw, name, eq, e, semi, rfl⟩
  · exact .inr ⟨wh, act, sc, semi, rfl⟩
def optToks : Option Tr → List RTok
  | none => []
  | some e => e.toks
def whToks : Option (RTok × Tr) → List RTok
  | none => []
  | some (k, e) => k :: e.toks
def RSt.body (s : RSt) : List RTok := Sum.elim (fun d : LetD => d.kw :: d.name :: d.eq :: d.e.toks) (fun d : RuleD => whToks d.wh ++ d.act :: optToks d.sc) s
def RSt.semi (s : RSt) : RTok := Sum.elim LetD.semi RuleD.semi s
theorem RSt.body_let (kw name eq : RTok) (e : Tr) (semi : RTok) : (RSt.letS kw name eq e semi).body = kw :: name :: eq :: e.toks := rfl
theorem RSt.body_rule (wh : Option (RTok × Tr)) (act : RTok) (sc : Option Tr) (semi : RTok) : (RSt.rule wh act sc semi).body = whToks wh ++ act :: optToks sc := rfl
def RSt.toks (s : RSt) : List RTok := s.body ++ [s.semi]
def toksL (l : List RSt) : List RTok := l.flatMap RSt.toks
def RSt.isLet (s : RSt) : Bool := Sum.elim (fun _ : LetD => true) (fun _ : RuleD => false) s
def RSt.wf (s : RSt) : Prop := Sum.elim (fun d : LetD => d.kw.text = cLet ∧ nameT d.name.text = true ∧ d.eq.text = cEq ∧ d.e.wf ∧ d.semi.text = cSemi) (fun d : RuleD => (∀ k e, d.wh = some (k, e) → k.text = cWhen ∧ e.wf) ∧ d.act.text = (if d.sc.isSome then cScore else cReject) ∧ (∀ e, d.sc = some e → e.wf) ∧ d.semi.text = cSemi) s
theorem toksL_append (a b : List RSt) : toksL (a ++ b) = toksL a ++ toksL b := by simp [toksL]
theorem toksL_cons (a : RSt) (b : List RSt) : toksL (a :: b) = a.toks ++ toksL b := by simp [toksL]
theorem RSt.body_pos (s : RSt) : 1 ≤ s.body.length := by
  rcases s.cases with ⟨kw, name, eq, e, semi, rfl⟩ | ⟨wh, act, sc, semi, rfl⟩
  · simp [RSt.body_let]
  · simp [RSt.body_rule]; omega
theorem RSt.toks_length (s : RSt) : s.toks.length = s.body.length + 1 := by simp [RSt.toks]
def plainE (t : Txt) : Prop := t ≠ cSemi ∧ t ≠ cLet ∧ t ≠ cWhen ∧ t ≠ cScore ∧ t ≠ cReject
theorem single_plain {t : Txt} (h : singleT t = true) : plainE t := by
  refine ⟨?_, ?_, ?_, ?_, ?_⟩ <;> (intro e; subst e; revert h; decide)
theorem un_plain {t : Txt} (h : unT t = true) : plainE t := by
  refine ⟨?_, ?_, ?_, ?_, ?_⟩ <;> (intro e; subst e; revert h; decide)
theorem bin_plain {t : Txt} (h : 0 < bindsT t) : plainE t := by
  refine ⟨?_, ?_, ?_, ?_, ?_⟩ <;> (intro e; subst e; revert h; decide)
theorem Tr.plain (t : Tr) (h : t.wf) : ∀ x ∈ t.toks, plainE x.text := by
  refine Tr.ind (P := fun t => ∀ x ∈ t.toks, plainE x.text) t h ?_ ?_ ?_ ?_
  · intro a h x hx; simp [Tr.toks_leaf] at hx; subst hx; exact single_plain (Tr.wf_leaf h).1
  · intro op e h ih x hx
    simp only [Tr.toks_un, List.mem_cons] at hx
    rcases hx with rfl | hx
    · exact un_plain (Tr.wf_un h).1
    · exact ih x hx
  · intro op l r h ihl ihr x hx
    simp only [Tr.toks_bin, List.mem_append, List.mem_cons] at hx
    rcases hx with hx | rfl | hx
    · exact ihl x hx
    · exact bin_plain (Tr.wf_bin h).1
    · exact ihr x hx
  · intro o e c h ih x hx
    simp only [Tr.toks_par, List.mem_cons, List.mem_append, List.mem_nil_iff, or_false] at hx
    rcases hx with rfl | hx | rfl
    · rw [(Tr.wf_par h).1]; refine ⟨?_, ?_, ?_, ?_, ?_⟩ <;> decide
    · exact ih x hx
    · rw [(Tr.wf_par h).2.1]; refine ⟨?_, ?_, ?_, ?_, ?_⟩ <;> decide
theorem RSt.body_no_semi (s : RSt) (h : s.wf) : ∀ x ∈ s.body, x.text ≠ cSemi := by
  intro x hx
  rcases s.cases with ⟨kw, name, eq, e, semi, rfl⟩ | ⟨wh, act, sc, semi, rfl⟩
  · simp only [RSt.body_let, List.mem_cons] at hx
    rcases hx with rfl | rfl | rfl | hx
    · rw [h.1]; decide
    · intro e'; have := name_not_semi h.2.1; rw [e'] at this; revert this; decide
    · rw [h.2.2.1]; decide
    · exact (e.plain h.2.2.2.1 x hx).1
  · simp only [RSt.body_rule, List.mem_append, List.mem_cons] at hx
    rcases hx with hx | rfl | hx
    · cases wh with
      | none => simp [whToks] at hx
      | some p =>
        obtain ⟨k, e⟩ := p
        simp only [whToks, List.mem_cons] at hx
        rcases hx with rfl | hx
        · rw [(h.1 x e rfl).1]; decide
        · exact (e.plain (h.1 k e rfl).2 x hx).1
    · rw [h.2.1]; split <;> decide
    · cases sc with
      | none => simp [optToks] at hx
      | some e => exact (e.plain (h.2.2.1 e rfl) x hx).1
theorem RSt.semi_text (s : RSt) (h : s.wf) : s.semi.text = cSemi := by
  rcases s.cases with ⟨kw, name, eq, e, semi, rfl⟩ | ⟨wh, act, sc, semi, rfl⟩
  · exact h.2.2.2.2
  · exact h.2.2.2
end Go.Proofs.YtjjbmbjmdgoofaaGreatDoor
namespace Go.Proofs.YtjjbmbjmdgoofaaGreatDoor
end Go.Proofs.YtjjbmbjmdgoofaaGreatDoor
namespace Go.Proofs.YtjjbmbjmdgoofaaGreatDoor
def firstAt (t : Tr) : Nat := ((t.toks[0]?).map RTok.at').getD 0
end Go.Proofs.YtjjbmbjmdgoofaaGreatDoor
namespace Go.Proofs.YtjjbmbjmdgoofaaGreatDoor
def tWords : List Txt := [[108, 101, 116], [119, 104, 101, 110], [115, 99, 111, 114, 101], [114, 101, 106, 101, 99, 116], [97, 110, 100], [111, 114], [110, 111, 116], [116, 114, 117, 101], [102, 97, 108, 115, 101], [100, 114, 121], [99, 111, 108, 100], [115, 97, 102, 101], [115, 105, 122, 101], [115, 112, 101, 101, 100], [110, 101, 101, 100], [122, 111, 110, 101], [99, 97, 112], [117, 115, 101, 100], [104, 97, 115]]
def digitRowT (t : Txt) : Nat := (t.takeWhile isDig).length
def letterRowT (t : Txt) : Nat := (t.takeWhile isLet).length
def wordGo : List Txt → Nat → Txt → Nat
  | [], _, _ => 2
  | x :: r, i, t => if x == t then 3 + i else wordGo r (i + 1) t
def wordKindT (t : Txt) : Nat := wordGo tWords 0 t
def signGo : List Txt → Nat → Nat → Nat → Txt → Nat × Nat
  | [], _, k, n, _ => (k, n)
  | x :: r, i, k, n, t => if n < x.length ∧ x.length ≤ t.length ∧ (t.take x.length == x) = true then signGo r (i + 1) (22 + i) x.length t else signGo r (i + 1) k n t
def firstSignT (t : Txt) : Nat × Nat := signGo tSign 0 0 0 t
def firstT (t : Txt) : Nat × Nat :=
  if 18 < digitRowT t then (0, 0)
  else if 0 < digitRowT t then (1, digitRowT t)
  else if 8 < letterRowT t then (0, 0)
  else if 0 < letterRowT t then (wordKindT (t.take (letterRowT t)), letterRowT t)
  else firstSignT t
structure PTok where
  kind : Nat
  place : Nat
  text : Txt
theorem takeWhile_length_le (p : UInt8 → Bool) (t : Txt) : (t.takeWhile p).length ≤ t.length := (List.takeWhile_sublist p).length_le
theorem signGo_le : ∀ (l : List Txt) (i k n : Nat) (t : Txt), n ≤ t.length → (signGo l i k n t).2 ≤ t.length
  | [], _, _, _, _, h => h
  | x :: r, i, k, n, t, h => by
    simp only [signGo]
    split
    · rename_i hc; exact signGo_le r _ _ _ t hc.2.1
    · exact signGo_le r _ _ _ t h
theorem firstT_le (t : Txt) : (firstT t).2 ≤ t.length := by
  unfold firstT
  split
  · exact Nat.zero_le _
  · split
    · exact takeWhile_length_le _ _
    · split
      · exact Nat.zero_le _
      · split
        · exact takeWhile_length_le _ _
        · exact signGo_le _ _ _ _ t (Nat.zero_le _)
def toksPF : Nat → Txt → Nat → Except Nat (List PTok)
  | _, [], pos => .ok [⟨0, pos, []⟩]
  | 0, _ :: _, _ => .ok []
  | n + 1, c :: r, pos =>
    if blankC c then toksPF n r (pos + 1)
    else if (firstT (c :: r)).2 = 0 then .error pos
    else match toksPF n ((c :: r).drop (firstT (c :: r)).2) (pos + (firstT (c :: r)).2) with
      | .ok l => .ok (⟨(firstT (c :: r)).1, pos, (c :: r).take (firstT (c :: r)).2⟩ :: l)
      | .error e => .error e
def toksP (s : Txt) (pos : Nat) : Except Nat (List PTok) := toksPF s.length s pos
theorem toksPF_more : ∀ (n m : Nat) (s : Txt) (pos : Nat), s.length ≤ n → s.length ≤ m → toksPF n s pos = toksPF m s pos
  | 0, 0, [], _, _, _ => rfl
  | 0, _ + 1, [], _, _, _ => rfl
  | _ + 1, 0, [], _, _, _ => rfl
  | _ + 1, _ + 1, [], _, _, _ => rfl
  | 0, _, c :: r, _, h, _ => by simp at h
  | _ + 1, 0, c :: r, _, _, h => by simp at h
  | n + 1, m + 1, c :: r, pos, h1, h2 => by
    have h1' : r.length ≤ n := by simpa using h1
    have h2' : r.length ≤ m := by simpa using h2
    simp only [toksPF]
    by_cases h0 : (firstT (c :: r)).2 = 0
    · rw [if_pos h0, if_pos h0, toksPF_more n m r (pos + 1) h1' h2']
    · rw [if_neg h0, if_neg h0, toksPF_more n m r (pos + 1) h1' h2', toksPF_more n m ((c :: r).drop (firstT (c :: r)).2) (pos + (firstT (c :: r)).2) (by rw [List.length_drop, List.length_cons]; omega) (by rw [List.length_drop, List.length_cons]; omega)]
theorem toksP_nil (pos : Nat) : toksP [] pos = .ok [⟨0, pos, []⟩] := rfl
theorem toksP_cons (c : UInt8) (r : Txt) (pos : Nat) : toksP (c :: r) pos = if blankC c then toksP r (pos + 1)
    else if (firstT (c :: r)).2 = 0 then .error pos
    else match toksP ((c :: r).drop (firstT (c :: r)).2) (pos + (firstT (c :: r)).2) with
      | .ok l => .ok (⟨(firstT (c :: r)).1, pos, (c :: r).take (firstT (c :: r)).2⟩ :: l)
      | .error e => .error e := by
  unfold toksP
  rw [List.length_cons, toksPF]
  by_cases h0 : (firstT (c :: r)).2 = 0
  · rw [if_pos h0, if_pos h0]
  · rw [if_neg h0, if_neg h0, toksPF_more r.length ((c :: r).drop (firstT (c :: r)).2).length _ _ (by rw [List.length_drop, List.length_cons]; omega) (Nat.le_refl _)]
end Go.Proofs.YtjjbmbjmdgoofaaGreatDoor
