/-
  The program's machine in memory: take, lay, end, layOrFault, one, two.
-/
import Derived.Test.YtjjbmbjmdgoofaaGreatDoorB09
import Derived.Test.YtjjbmbjmdgoofaaGreatDoorB08
import Derived.Test.YtjjbmbjmdgoofaaGreatDoorB28
import Derived.Deep.AppendLies
import Derived.Deep.RegionHeld3
import Derived.Deep.Cut
import Derived.Test.YtjjbmbjmdgoofaaGreatDoorB27
import Derived.Deep.LoopGhost
import Derived.Deep.DeepCutAuto
set_option linter.unusedVariables false
set_option linter.unusedSimpArgs false
namespace Go.Proofs.YtjjbmbjmdgoofaaGreatDoor
open Go.RowKit
def cellsZ (l : List Int) : List Value := l.map fun n => .int .i64 n
def mCells (x : Itm) (y : Bn) (sv : Value) (p : Nat) (en : Bool) (k v n : Int) : Array Value :=
  #[.int .i64 x.size, .int .i64 x.speed, .int .i64 x.need, .int .i64 y.id, .int .i64 y.zone, .int .i64 y.cap, .int .i64 y.used, .int .i64 y.has, sv, .int .i64 p, .bool en, .int .i64 k, .int .i64 v, .int .i64 n]
structure MSt (w : World) (mb : Nat) (x : Itm) (y : Bn) (sv : Value) (st : List Int) (p : Nat) (en : Bool) (k v n : Int) : Prop where
  m : Blk w mb (mCells x y sv p en k v n) 169
  row : w.ownsRow (mb + 1) 2 1 sv st.length (cellsZ st.reverse)
section
variable {w w' : World} {mb : Nat} {x : Itm} {y : Bn} {sv : Value} {st : List Int} {p : Nat} {en : Bool} {k v n : Int}
theorem MSt.lt (h : MSt w mb x y sv st p en k v n) : mb < w.heap.size := h.m.lt
theorem MSt.below (h : MSt w mb x y sv st p en k v n) (hb : Below w.heap.size w w') : MSt w' mb x y sv st p en k v n := ⟨h.m.below hb h.m.lt, own_below h.row hb⟩
theorem MSt.place (h : MSt w mb x y sv st p en k v n) (q : Nat) : MSt (w.setCell ⟨mb, 9, none⟩ (.int .i64 q)) mb x y sv st q en k v n := ⟨h.m.set 9 _, own_setCell h.row _ _ (Nat.lt_succ_self mb)⟩
theorem MSt.steps (h : MSt w mb x y sv st p en k v n) (q : Int) : MSt (w.setCell ⟨mb, 13, none⟩ (.int .i64 q)) mb x y sv st p en k v q := ⟨h.m.set 13 _, own_setCell h.row _ _ (Nat.lt_succ_self mb)⟩
end
end Go.Proofs.YtjjbmbjmdgoofaaGreatDoor
namespace Go.Proofs.YtjjbmbjmdgoofaaGreatDoor
open Go.RowKit
end Go.Proofs.YtjjbmbjmdgoofaaGreatDoor
namespace Go.Proofs.YtjjbmbjmdgoofaaGreatDoor
open Go.RowKit
theorem neg_le2 (a : Int) : (negN a).2 ≤ 2 := by unfold negN exact64; split <;> simp
theorem one_le2 (c : Nat) (a : Int) : (oneN c a).2 ≤ 2 := by
  unfold oneN; split
  · exact neg_le2 a
  · simp
theorem join_le2 (c : Nat) (a b : Int) : (joinN c a b).2 ≤ 2 := by
  have e : ∀ v, (exact64 v).2 ≤ 2 := fun v => by unfold exact64; split <;> simp
  unfold joinN
  (repeat' split) <;> first | exact e _ | simp
end Go.Proofs.YtjjbmbjmdgoofaaGreatDoor
namespace Go.Proofs.YtjjbmbjmdgoofaaGreatDoor
open Go.RowKit
def insCells (c : Nat) (a : Int) (nx : Nat) : Array Value := #[.int .i64 c, .int .i64 a, .int .i64 nx]
structure LookAt (w0 w : World) (B vb hb : Nat) (s : ByteArray) (H : Nat → Int) (wg : Bool) (xb : Nat) (c : Nat) (a : Int) (nx : Nat) : Prop where
  v : VStv w vb hb s (bt s 2) H wg
  x : Blk w xb (insCells c a nx) 171
  g : GlobP w
  bl : Below B w0 w
  ne : xb ≠ vb ∧ xb ≠ hb
  hB : B ≤ vb ∧ B ≤ hb
  hG : 0 < B ∧ 1 < B ∧ 2 < B
section
variable {w0 w w' : World} {B vb hb : Nat} {s : ByteArray} {H H' : Nat → Int} {wg wg' : Bool} {xb c : Nat} {a : Int} {nx : Nat}
theorem LookAt.below (h : LookAt w0 w B vb hb s H wg xb c a nx) (hb' : Below w.heap.size w w') : LookAt w0 w' B vb hb s H wg xb c a nx :=
  ⟨h.v.below hb', h.x.below hb' h.x.lt, h.g.below hb', h.bl.trans (hb'.mono (Nat.le_of_lt (Nat.lt_of_le_of_lt h.hB.1 h.v.st.lt))), h.ne, h.hB, h.hG⟩
end
end Go.Proofs.YtjjbmbjmdgoofaaGreatDoor
namespace Go.Proofs.YtjjbmbjmdgoofaaGreatDoor
open Go.RowKit
theorem MSt.blk {w w1 : World} {mb xb : Nat} {cs : Array Value} {t : TypeId} (h : Blk w xb cs t) (ho : ∀ b, b ≠ mb → w1.heap[b]? = w.heap[b]?) (hne : xb ≠ mb) : Blk w1 xb cs t := by
  unfold Blk at h ⊢; rw [ho xb hne]; exact h
end Go.Proofs.YtjjbmbjmdgoofaaGreatDoor
namespace Go.Proofs.YtjjbmbjmdgoofaaGreatDoor
open Go.RowKit
end Go.Proofs.YtjjbmbjmdgoofaaGreatDoor
namespace Go.Proofs.YtjjbmbjmdgoofaaGreatDoor
open Go.RowKit
end Go.Proofs.YtjjbmbjmdgoofaaGreatDoor
namespace Go.Proofs.YtjjbmbjmdgoofaaGreatDoor
open Go.RowKit Go.Deep
structure BSt (w wr : World) (x : Itm) (bv v : Value) (bs : List Bn) (acc : List Plc) : Prop where
  it : Blk wr w.heap.size #[.int .i64 x.size, .int .i64 x.speed, .int .i64 x.need] 28
  rk : Blk wr (w.heap.size + 1) #[.int .i64 0, .int .i64 0, .int .i64 0, .slice none 0 0] 52
  own : wr.ownsRow (w.heap.size + 2) 88 2 v acc.length (cellsQ acc)
  rd : Reads wr bv bs.length (cellsB bs)
  gp : GlobY wr
  bl : Below w.heap.size w wr
theorem BSt.below {w wr w' : World} {x : Itm} {bv v : Value} {bs : List Bn} {acc : List Plc} (h : BSt w wr x bv v bs acc) (hb : Below wr.heap.size wr w') : BSt w w' x bv v bs acc :=
  ⟨h.it.below hb h.it.lt, h.rk.below hb h.rk.lt, own_below h.own hb, h.rd.below hb, h.gp.below hb, h.bl.trans (hb.mono h.bl.size)⟩
end Go.Proofs.YtjjbmbjmdgoofaaGreatDoor
namespace Go.Proofs.YtjjbmbjmdgoofaaGreatDoor
open Go.RowKit Go.Deep
structure RSt2 (w wx : World) (sb : Nat) (x : Itm) (bs : List Bn) (im : ByteArray) : Prop where
  st : StoreAt wx sb bs im
  it : Blk wx w.heap.size #[.int .i64 x.size, .int .i64 x.speed, .int .i64 x.need] 28
  rk : Blk wx (w.heap.size + 1) #[.int .i64 0, .int .i64 0, .int .i64 0, .slice none 0 0] 52
  gp : GlobY wx
  bl : Below w.heap.size w wx
theorem RSt2.below {w wx w' : World} {sb : Nat} {x : Itm} {bs : List Bn} {im : ByteArray} (h : RSt2 w wx sb x bs im) (hb : Below wx.heap.size wx w') : RSt2 w w' sb x bs im :=
  ⟨h.st.below hb, h.it.below hb h.it.lt, h.rk.below hb h.rk.lt, h.gp.below hb, h.bl.trans (hb.mono h.bl.size)⟩
end Go.Proofs.YtjjbmbjmdgoofaaGreatDoor
namespace Go.Proofs.YtjjbmbjmdgoofaaGreatDoor
open Go.RowKit Go.Deep
end Go.Proofs.YtjjbmbjmdgoofaaGreatDoor
namespace Go.Proofs.YtjjbmbjmdgoofaaGreatDoor
section
variable {ls : List PLet} {N : List PNode} {x : Itm} {y : Bn}
end
end Go.Proofs.YtjjbmbjmdgoofaaGreatDoor
namespace Go.Proofs.YtjjbmbjmdgoofaaGreatDoor
open Go.Deep
structure Wo where
  v : Int
  flt : Nat
  steps : Nat
  fix : Bool
def settleW (w : Wo) : Wo := if w.fix = true ∧ w.flt = 0 then { w with steps := 1 } else w
def oneW (k : Nat) (p : Wo) : Wo :=
  if p.flt ≠ 0 then ⟨0, p.flt, p.steps, p.fix⟩
  else settleW ⟨(oneN (opK k 1) p.v).1, (oneN (opK k 1) p.v).2, p.steps + 1, p.fix⟩
def twoW (k : Nat) (p q : Wo) : Wo :=
  if p.flt ≠ 0 then ⟨0, p.flt, p.steps, p.fix && q.fix⟩
  else if q.flt ≠ 0 then ⟨0, q.flt, p.steps + q.steps, p.fix && q.fix⟩
  else settleW ⟨(joinN (opK k 2) p.v q.v).1, (joinN (opK k 2) p.v q.v).2, p.steps + q.steps + 1, p.fix && q.fix⟩
def choW (k : Nat) (p q : Wo) : Wo :=
  if p.flt ≠ 0 then ⟨0, p.flt, p.steps, p.fix && q.fix⟩
  else if p.v = decK k then settleW ⟨decK k, 0, p.steps + 2, p.fix && q.fix⟩
  else if q.flt ≠ 0 then ⟨0, q.flt, p.steps + 1 + q.steps, p.fix && q.fix⟩
  else settleW ⟨q.v, 0, p.steps + 1 + q.steps + 1, p.fix && q.fix⟩
def binW (k : Nat) (p q : Wo) : Wo := if isChK k then choW k p q else twoW k p q
def leafW (env : Txt → Wo) (x : Itm) (y : Bn) (a : RTok) : Wo :=
  if kindP a.text = 2 then env a.text
  else match singleF a with
    | some v => ⟨v, 0, 1, true⟩
    | none => ⟨attrN (kindP a.text - 15 : Nat) x y, 0, 1, false⟩
def worB (env : Txt → Wo) (x : Itm) (y : Bn) : BT (RTok × RTok) → Wo
  | .nil => ⟨0, 0, 1, true⟩
  | .node 0 _ a _ _ => leafW env x y a.1
  | .node 1 _ a e _ => oneW (kindP a.1.text) (worB env x y e)
  | .node 2 _ a l r => binW (kindP a.1.text) (worB env x y l) (worB env x y r)
  | .node _ _ a e _ => worB env x y e
def Tr.wor (env : Txt → Wo) (x : Itm) (y : Bn) (t : Tr) : Wo := worB env x y t
theorem Tr.wor_leaf (env : Txt → Wo) (x : Itm) (y : Bn) (t : RTok) : (Tr.leaf t).wor env x y = leafW env x y t := rfl
theorem Tr.wor_un (env : Txt → Wo) (x : Itm) (y : Bn) (op : RTok) (e : Tr) : (Tr.un op e).wor env x y = oneW (kindP op.text) (e.wor env x y) := rfl
theorem Tr.wor_bin (env : Txt → Wo) (x : Itm) (y : Bn) (op : RTok) (l r : Tr) : (Tr.bin op l r).wor env x y = binW (kindP op.text) (l.wor env x y) (r.wor env x y) := rfl
theorem Tr.wor_par (env : Txt → Wo) (x : Itm) (y : Bn) (o : RTok) (e : Tr) (c : RTok) : (Tr.par o e c).wor env x y = e.wor env x y := rfl
theorem settle_eq (w : Wo) : (settleW w).v = w.v ∧ (settleW w).flt = w.flt ∧ (settleW w).fix = w.fix ∧ (settleW w).steps = (if w.fix = true ∧ w.flt = 0 then 1 else w.steps) := by
  unfold settleW
  split <;> exact ⟨rfl, rfl, rfl, rfl⟩
theorem exact_nul (v : Int) (h : (exact64 v).2 ≠ 0) : (exact64 v).1 = 0 := by
  unfold exact64 at h ⊢
  by_cases hv : In64 v
  · rw [if_pos hv] at h; exact absurd rfl h
  · rw [if_neg hv]
theorem joinN_nul (c : Nat) (a b : Int) (h : (joinN c a b).2 ≠ 0) : (joinN c a b).1 = 0 := by
  unfold joinN at h ⊢
  repeat' split
  all_goals first | rfl | (simp only [*, if_true, if_false] at h; first | exact exact_nul _ h | exact absurd rfl h)
theorem oneN_nul (c : Nat) (a : Int) (h : (oneN c a).2 ≠ 0) : (oneN c a).1 = 0 := by
  unfold oneN at h ⊢
  by_cases hc : c = 2
  · rw [if_pos hc] at h ⊢; exact exact_nul _ h
  · rw [if_neg hc] at h; exact absurd rfl h
section
variable {ls : List PLet} {N : List PNode} {x : Itm} {y : Bn}
end
end Go.Proofs.YtjjbmbjmdgoofaaGreatDoor
namespace Go.Proofs.YtjjbmbjmdgoofaaGreatDoor
open Go.Deep
end Go.Proofs.YtjjbmbjmdgoofaaGreatDoor
namespace Go.Proofs.YtjjbmbjmdgoofaaGreatDoor
open Go.Deep
def actW (env : Txt → Wo) (x : Itm) (y : Bn) : Option Tr → Nat × Int × Nat
  | none => (0, 0, 1)
  | some e => if (e.wor env x y).flt ≠ 0 then (2, ((e.wor env x y).flt : Int), (e.wor env x y).steps) else (1, (e.wor env x y).v, (e.wor env x y).steps + 1)
def whenW (w : Wo) : Nat := if w.fix = true ∧ w.flt = 0 then 0 else w.steps + 1
def sayD (env : Txt → Wo) (x : Itm) (y : Bn) (d : RuleD) (rest : Nat × Int × Nat) : Nat × Int × Nat :=
  match d.wh with
  | none => actW env x y d.sc
  | some p =>
    if (p.2.wor env x y).flt ≠ 0 then (2, ((p.2.wor env x y).flt : Int), (p.2.wor env x y).steps)
    else if (p.2.wor env x y).v = 0 then (rest.1, rest.2.1, whenW (p.2.wor env x y) + rest.2.2)
    else ((actW env x y d.sc).1, (actW env x y d.sc).2.1, whenW (p.2.wor env x y) + (actW env x y d.sc).2.2)
def sayW (env : Txt → Wo) (x : Itm) (y : Bn) : List RSt → Nat × Int × Nat
  | [] => (0, 0, 1)
  | s :: r => Sum.elim (fun _ : LetD => sayW env x y r) (fun d : RuleD => sayD env x y d (sayW env x y r)) s
theorem sayW_rule (env : Txt → Wo) (x : Itm) (y : Bn) (wh : Option (RTok × Tr)) (act : RTok) (sc : Option Tr) (semi : RTok) (r : List RSt) : sayW env x y (RSt.rule wh act sc semi :: r) = sayD env x y ⟨wh, act, sc, semi⟩ (sayW env x y r) := rfl
section
variable {ls : List PLet} {N : List PNode} {x : Itm} {y : Bn}
end
end Go.Proofs.YtjjbmbjmdgoofaaGreatDoor
namespace Go.Proofs.YtjjbmbjmdgoofaaGreatDoor
open Go.Deep
def lookW (c : List (Txt × Wo)) (t : Txt) : Wo := match c[c.findIdx (fun q => q.1 == t)]? with
  | some q => q.2
  | none => ⟨0, 0, 1, true⟩
def envS (x : Itm) (y : Bn) : List (Txt × Wo) → List RSt → List (Txt × Wo)
  | c, [] => c
  | c, s :: r => envS x y (Sum.elim (fun d : LetD => c ++ [(d.name.text, d.e.wor (lookW c) x y)]) (fun _ : RuleD => c) s) r
section
variable {ls : List PLet} {N : List PNode} {x : Itm} {y : Bn}
end
end Go.Proofs.YtjjbmbjmdgoofaaGreatDoor
namespace Go.Proofs.YtjjbmbjmdgoofaaGreatDoor
open Go.Deep
def saysP (x : Itm) (y : Bn) (L R : List RSt) : Nat × Int × Nat := sayW (lookW (envS x y [] L)) x y R
end Go.Proofs.YtjjbmbjmdgoofaaGreatDoor
namespace Go.Proofs.YtjjbmbjmdgoofaaGreatDoor
open Go.Deep
def stopC (c : UInt8) : Bool := c == 32 || c == 41 || c == 59
def stopB : Txt → Prop
  | [] => True
  | c :: _ => stopC c = true
theorem same_stop (a : UInt8) {c : UInt8} (h : stopC c = true) : sameC a c = false := by
  unfold stopC at h
  simp only [Bool.or_eq_true, beq_iff_eq] at h
  rcases h with (rfl | rfl) | rfl <;> simp [sameC, isDig, isLet]
def Toks (t : Txt) (pos : Nat) (l : List RTok) : Prop := ∀ rest, stopB rest → toksR (t ++ rest) pos = preR l (toksR rest (pos + t.length))
theorem toks_nil (pos : Nat) : Toks [] pos [] := fun rest _ => by rw [preR_nil]; rfl
theorem toks_blank1 {r : Txt} {pos : Nat} {l : List RTok} (h : Toks r (pos + 1) l) : Toks (32 :: r) pos l := fun rest hr => by
  rw [List.cons_append, toksR_cons, if_pos (by decide), h rest hr, List.length_cons]
  congr 2
  omega
theorem runLen_stop : ∀ (t : Txt) (rest : Txt), t ≠ [] → runLen t = t.length → stopB rest → runLen (t ++ rest) = t.length
  | [], _, h, _, _ => absurd rfl h
  | [a], [], _, _, _ => rfl
  | [a], c :: r, _, _, hs => by
    rw [List.cons_append, List.nil_append, runLen, same_stop a hs]
    rfl
  | a :: b :: t, rest, _, hl, hs => by
    rw [runLen] at hl
    have hle := runLen_le (b :: t)
    cases hc : sameC a b with
    | false => rw [hc] at hl; simp at hl
    | true =>
      rw [hc] at hl
      simp only [if_true, List.length_cons] at hl hle
      have := runLen_stop (b :: t) rest (by simp) (by simp only [List.length_cons]; omega) hs
      rw [List.cons_append, List.cons_append, runLen, hc, if_pos rfl, ← List.cons_append, this]
      rfl
theorem toks_one {t : Txt} (pos : Nat) (h0 : t ≠ []) (hb : blankC (headC t) = false) (hl : runLen t = t.length) (hm : mayT t = true) : Toks t pos [⟨t, pos⟩] := fun rest hr => by
  cases t with
  | nil => exact absurd rfl h0
  | cons c r =>
    have hrun := runLen_stop (c :: r) rest h0 hl hr
    rw [List.cons_append] at hrun ⊢
    rw [toksR_cons, hrun, if_neg (by rw [show blankC c = false from hb]; decide)]
    have ht : (c :: (r ++ rest)).take (c :: r).length = c :: r := by rw [← List.cons_append, List.take_left']; rfl
    have hd : (c :: (r ++ rest)).drop (c :: r).length = rest := by rw [← List.cons_append, List.drop_left']; rfl
    rw [ht, hd, if_pos hm]
    cases toksR rest (pos + (c :: r).length) <;> rfl
def hardC (c : UInt8) : Bool := !isDig c && !isLet c && !(c == 60) && !(c == 33) && !(blankC c) && signT [c]
theorem hard_same {c : UInt8} (h : hardC c = true) (b : UInt8) : sameC c b = false := by
  unfold hardC at h
  simp only [Bool.and_eq_true, Bool.not_eq_true'] at h
  obtain ⟨⟨⟨⟨⟨h1, h2⟩, h3⟩, h4⟩, h5⟩, h6⟩ := h
  simp [sameC, h1, h2, h3, h4]
theorem toks_hard {c : UInt8} (h : hardC c = true) (r : Txt) (pos : Nat) : toksR (c :: r) pos = preR [⟨[c], pos⟩] (toksR r (pos + 1)) := by
  have hs := hard_same h
  unfold hardC at h
  simp only [Bool.and_eq_true, Bool.not_eq_true'] at h
  obtain ⟨⟨⟨⟨⟨h1, h2⟩, h3⟩, h4⟩, h5⟩, h6⟩ := h
  have hr : runLen (c :: r) = 1 := by
    cases r with
    | nil => rfl
    | cons b r => rw [runLen, hs b]; rfl
  have hm : mayT [c] = true := by
    unfold mayT
    rw [show headC [c] = c from rfl, h1, h2]
    simpa using h6
  rw [toksR_cons, h5, hr]
  simp only [Bool.false_eq_true, if_false, List.take_succ_cons, List.take_zero, List.drop_succ_cons, List.drop_zero, hm, if_true]
  cases toksR r (pos + 1) <;> rfl
theorem toks_sign {c : UInt8} (h : hardC c = true) {r : Txt} {pos : Nat} {l : List RTok} (hr : Toks r (pos + 1) l) : Toks (c :: r) pos (⟨[c], pos⟩ :: l) := fun rest hs => by
  rw [List.cons_append, toks_hard h, hr rest hs, preR_app, List.length_cons, List.singleton_append]
  congr 2
  omega
theorem toks_app {a b : Txt} {pos : Nat} {l m : List RTok} (ha : Toks a pos l) (hb : Toks b (pos + a.length) m) (hs : ∃ c r, b = c :: r ∧ stopC c = true) : Toks (a ++ b) pos (l ++ m) := fun rest hr => by
  obtain ⟨c, r, rfl, hc⟩ := hs
  rw [List.append_assoc, ha ((c :: r) ++ rest) hc, hb rest hr, preR_app, List.length_append, Nat.add_assoc]
theorem toks_join {a b op : Txt} {pos : Nat} {l m : List RTok} (ha : Toks a pos l) (h0 : op ≠ []) (hbl : blankC (headC op) = false) (hl : runLen op = op.length) (hm : mayT op = true) (hb : Toks b (pos + a.length + 1 + op.length + 1) m) :
    Toks (a ++ 32 :: (op ++ 32 :: b)) pos (l ++ ⟨op, pos + a.length + 1⟩ :: m) :=
  toks_app ha (toks_blank1 (toks_app (toks_one _ h0 hbl hl hm) (toks_blank1 hb) ⟨32, b, rfl, rfl⟩)) ⟨32, _, rfl, rfl⟩
theorem toks_brack {a : Txt} {pos : Nat} {l : List RTok} (ha : Toks a (pos + 1) l) : Toks (40 :: (a ++ [41])) pos (⟨[40], pos⟩ :: (l ++ [⟨[41], pos + 1 + a.length⟩])) :=
  toks_sign (by decide) (toks_app ha (toks_sign (by decide) (toks_nil _)) ⟨41, [], rfl, rfl⟩)
theorem toks_brack2 {a : Txt} {pos : Nat} {l : List RTok} (ha : Toks a (pos + 2) l) : Toks (40 :: 32 :: (a ++ [41])) pos (⟨[40], pos⟩ :: (l ++ [⟨[41], pos + 2 + a.length⟩])) :=
  toks_sign (by decide) (toks_blank1 (toks_app ha (toks_sign (by decide) (toks_nil _)) ⟨41, [], rfl, rfl⟩))
end Go.Proofs.YtjjbmbjmdgoofaaGreatDoor
