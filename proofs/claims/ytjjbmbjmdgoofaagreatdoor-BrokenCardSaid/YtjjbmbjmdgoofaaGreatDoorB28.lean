/-
  Compile: the facts of `and` and `or`, and of single tokens.
-/
import Derived.Test.YtjjbmbjmdgoofaaGreatDoorB27
import Derived.Test.YtjjbmbjmdgoofaaGreatDoorB25
import Derived.BigQuiet
import Derived.Deep.RegionWith
import Derived.Laws.Bits64
import Derived.Laws.BitsLemmas
import Derived.Laws.OwnMore
import Derived.Deep.DeepCutAuto
import Derived.Test.YtjjbmbjmdgoofaaGreatDoorProg
import Derived.Test.YtjjbmbjmdgoofaaGreatDoorB08
import Derived.WalkLawsBesides
import Derived.Deep.QuietTactic
import Derived.Deep.Light
import Derived.Test.YtjjbmbjmdgoofaaGreatDoorB00
import Derived.Laws.BitsAllLaws
import Derived.Deep.LoopGhost
set_option linter.unusedVariables false
set_option linter.unusedSimpArgs false
namespace Go.Proofs.YtjjbmbjmdgoofaaGreatDoor
open Go.RowKit Go.Deep
end Go.Proofs.YtjjbmbjmdgoofaaGreatDoor
namespace Go.Proofs.YtjjbmbjmdgoofaaGreatDoor
open Go.RowKit Go.Deep
def nodC (n : PNode) : Array Value := #[.int .i64 (kindP n.tok.text), .int .i64 n.tok.at', .string (bsOf n.tok.text), .int .i64 n.ops, .int .i64 n.left, .int .i64 n.right]
structure FoSt (w wx : World) (n : PNode) (lv fv : Value) (ls : List PLet) (gs : List Fact) : Prop where
  nd : Blk wx w.heap.size (nodC n) 162
  rs : Blk wx (w.heap.size + 1) #[.bool false, .int .i64 0] 159
  l : Reads wx lv ls.length (cellsLt ls)
  f : Reads wx fv gs.length (cellsF gs)
  bl : Below w.heap.size w wx
theorem FoSt.below {w wx w' : World} {n : PNode} {lv fv : Value} {ls : List PLet} {gs : List Fact} (h : FoSt w wx n lv fv ls gs) (hb : Below wx.heap.size wx w') : FoSt w w' n lv fv ls gs :=
  ⟨h.nd.below hb h.nd.lt, h.rs.below hb h.rs.lt, h.l.below hb, h.f.below hb, h.bl.trans (hb.mono h.bl.size)⟩
end Go.Proofs.YtjjbmbjmdgoofaaGreatDoor
namespace Go.Proofs.YtjjbmbjmdgoofaaGreatDoor
open Go.RowKit Go.Deep
end Go.Proofs.YtjjbmbjmdgoofaaGreatDoor
namespace Go.Proofs.YtjjbmbjmdgoofaaGreatDoor
open Go.RowKit Go.Deep
end Go.Proofs.YtjjbmbjmdgoofaaGreatDoor
namespace Go.Proofs.YtjjbmbjmdgoofaaGreatDoor
open Go.RowKit Go.Deep
def padF (gs : List Fact) (n : Nat) : List Fact := gs ++ List.replicate (n - gs.length) none
theorem padF_len (gs : List Fact) (n : Nat) (h : gs.length ≤ n) : (padF gs n).length = n := by simp [padF]; omega
end Go.Proofs.YtjjbmbjmdgoofaaGreatDoor
namespace Go.Proofs.YtjjbmbjmdgoofaaGreatDoor
open Go.RowKit Go.Deep
end Go.Proofs.YtjjbmbjmdgoofaaGreatDoor
namespace Go.Proofs.YtjjbmbjmdgoofaaGreatDoor
open Go.RowKit Go.Deep
theorem GlobB.set {w : World} (h : GlobB w) {cb : Nat} (hne : 0 ≠ cb) (i : Nat) (v : Value) : GlobB (w.setCell ⟨cb, i, none⟩ v) := by
  refine ⟨fun c hc => ?_, by have := h.size; simpa using this⟩
  rw [← h.bytes c hc]
  show (w.setCell ⟨cb, i, none⟩ v).cell? ⟨0, c, none⟩ = _
  unfold World.cell?
  rw [Below.heap_setCell _ _ _ _ hne]
structure CmpAt (w : World) (cb : Nat) (nv lv rv fv : Value) (h : Nat) (N : List PNode) (ls : List PLet) (rs : List PRule) (fs : List Fact) : Prop where
  blk : Blk w cb #[nv, lv, rv, fv, .int .i64 h] 129
  pa : PolAt w nv lv rv N ls rs
  fr : Reads w fv fs.length (cellsF fs)
  fb : fs.length ≤ 401
  gb : GlobB w
  ap : Apart2 cb cb nv lv rv
  af : fv.ownBlock ≠ some cb
  ag : 0 ≠ cb
theorem CmpAt.below {w w' : World} {cb : Nat} {nv lv rv fv : Value} {h : Nat} {N : List PNode} {ls : List PLet} {rs : List PRule} {fs : List Fact} (H : CmpAt w cb nv lv rv fv h N ls rs fs) (hb : Below w.heap.size w w') : CmpAt w' cb nv lv rv fv h N ls rs fs :=
  ⟨H.blk.below hb H.blk.lt, H.pa.below hb, H.fr.below hb, H.fb, H.gb.below hb, H.ap, H.af, H.ag⟩
theorem CmpAt.high {w : World} {cb : Nat} {nv lv rv fv : Value} {h : Nat} {N : List PNode} {ls : List PLet} {rs : List PRule} {fs : List Fact} (H : CmpAt w cb nv lv rv fv h N ls rs fs) (k : Nat) : CmpAt (w.setCell ⟨cb, 4, none⟩ (.int .i64 k)) cb nv lv rv fv k N ls rs fs :=
  ⟨H.blk.set 4 (.int .i64 k), H.pa.set1 H.ap 4 _, H.fr.set H.af, H.fb, H.gb.set H.ag 4 _, H.ap, H.af, H.ag⟩
end Go.Proofs.YtjjbmbjmdgoofaaGreatDoor
namespace Go.Proofs.YtjjbmbjmdgoofaaGreatDoor
open Go.RowKit Go.Deep
structure NdSt (w wx : World) (cb : Nat) (n : PNode) (nv lv rv fv : Value) (h : Nat) (N : List PNode) (ls : List PLet) (rs : List PRule) (fs : List Fact) : Prop where
  c : CmpAt wx cb nv lv rv fv h N ls rs fs
  nd : Blk wx w.heap.size (nodC n) 162
  bu : But cb w wx
  nn : cb < w.heap.size
theorem NdSt.call {w wx w' : World} {cb : Nat} {n : PNode} {nv lv rv fv : Value} {h h' : Nat} {N : List PNode} {ls : List PLet} {rs : List PRule} {fs : List Fact} (H : NdSt w wx cb n nv lv rv fv h N ls rs fs) (hc : CmpAt w' cb nv lv rv fv h' N ls rs fs) (hb : But cb wx w') : NdSt w w' cb n nv lv rv fv h' N ls rs fs :=
  ⟨hc, H.nd.but hb (by have := H.nn; omega), H.bu.trans hb, H.nn⟩
theorem NdSt.below {w wx w' : World} {cb : Nat} {n : PNode} {nv lv rv fv : Value} {h : Nat} {N : List PNode} {ls : List PLet} {rs : List PRule} {fs : List Fact} (H : NdSt w wx cb n nv lv rv fv h N ls rs fs) (hb : Below wx.heap.size wx w') : NdSt w w' cb n nv lv rv fv h N ls rs fs := H.call (H.c.below hb) (But.of hb)
end Go.Proofs.YtjjbmbjmdgoofaaGreatDoor
namespace Go.Proofs.YtjjbmbjmdgoofaaGreatDoor
open Go.RowKit Go.Deep
end Go.Proofs.YtjjbmbjmdgoofaaGreatDoor
namespace Go.Proofs.YtjjbmbjmdgoofaaGreatDoor
open Go.RowKit Go.Deep
end Go.Proofs.YtjjbmbjmdgoofaaGreatDoor
namespace Go.Proofs.YtjjbmbjmdgoofaaGreatDoor
open Go.RowKit Go.Deep
end Go.Proofs.YtjjbmbjmdgoofaaGreatDoor
namespace Go.Proofs.YtjjbmbjmdgoofaaGreatDoor
open Go.RowKit Go.Deep
end Go.Proofs.YtjjbmbjmdgoofaaGreatDoor
namespace Go.Proofs.YtjjbmbjmdgoofaaGreatDoor
open Go.RowKit Go.Deep
structure FsSt (w wr : World) (nv lv rv : Value) (fb : Nat) (gs : List Fact) (N : List PNode) (ls : List PLet) (rs : List PRule) : Prop where
  bx : Blk wr w.heap.size #[nv, lv, rv] 77
  row : Blk wr fb (cellsF (padF gs N.length)).toArray 159
  pa : PolAt wr nv lv rv N ls rs
  hf : w.heap.size < fb
  le : gs.length ≤ N.length
  bl : Below w.heap.size w wr
theorem FsSt.below {w wr w' : World} {nv lv rv : Value} {fb : Nat} {gs : List Fact} {N : List PNode} {ls : List PLet} {rs : List PRule} (h : FsSt w wr nv lv rv fb gs N ls rs) (hb : Below wr.heap.size wr w') : FsSt w w' nv lv rv fb gs N ls rs :=
  ⟨h.bx.below hb h.bx.lt, h.row.below hb h.row.lt, h.pa.below hb, h.hf, h.le, h.bl.trans (hb.mono h.bl.size)⟩
theorem FsSt.reads {w wr : World} {nv lv rv : Value} {fb : Nat} {gs : List Fact} {N : List PNode} {ls : List PLet} {rs : List PRule} (h : FsSt w wr nv lv rv fb gs N ls rs) : Reads wr (.slice (some ⟨fb, 0, none⟩) N.length N.length) (padF gs N.length).length (cellsF (padF gs N.length)) := by
  refine .inr ⟨fb, 0, N.length, by rw [padF_len _ _ h.le], by rw [padF_len _ _ h.le]; exact Nat.le_refl _, h.row.lt, fun j u hj => ?_⟩
  rw [Nat.zero_add, h.row.cell]
  simpa using hj
 where sets2' {w wr : World} {fb i j : Nat} {a b : Value} (h : Below w.heap.size w wr) (hf : w.heap.size < fb) : Below w.heap.size w ((wr.setCell ⟨fb, i, none⟩ a).setCell ⟨fb, j, none⟩ b) :=
  (h.setCell (p := ⟨fb, i, none⟩) (Nat.le_of_lt hf) a).setCell (p := ⟨fb, j, none⟩) (Nat.le_of_lt hf) b
end Go.Proofs.YtjjbmbjmdgoofaaGreatDoor
namespace Go.Proofs.YtjjbmbjmdgoofaaGreatDoor
open Go.RowKit Go.Deep
end Go.Proofs.YtjjbmbjmdgoofaaGreatDoor
namespace Go.Proofs.YtjjbmbjmdgoofaaGreatDoor
open Go.RowKit Go.Deep
def ruC (r : PRule) : Array Value := #[.bool r.hw, .int .i64 r.when.place, .int .i64 r.when.fr, .int .i64 r.when.behind, .bool r.hs, .int .i64 r.score.place, .int .i64 r.score.fr, .int .i64 r.score.behind]
structure RuSt (w wx : World) (cb : Nat) (r : PRule) (nv lv rv fv : Value) (h : Nat) (N : List PNode) (ls : List PLet) (rs : List PRule) (fs : List Fact) : Prop where
  c : CmpAt wx cb nv lv rv fv h N ls rs fs
  r : Blk wx w.heap.size (ruC r) 123
  bu : But cb w wx
  nn : cb < w.heap.size
theorem RuSt.call {w wx w' : World} {cb : Nat} {r : PRule} {nv lv rv fv : Value} {h h' : Nat} {N : List PNode} {ls : List PLet} {rs : List PRule} {fs : List Fact} (H : RuSt w wx cb r nv lv rv fv h N ls rs fs) (hc : CmpAt w' cb nv lv rv fv h' N ls rs fs) (hb : But cb wx w') : RuSt w w' cb r nv lv rv fv h' N ls rs fs :=
  ⟨hc, H.r.but hb (by have := H.nn; omega), H.bu.trans hb, H.nn⟩
theorem RuSt.below {w wx w' : World} {cb : Nat} {r : PRule} {nv lv rv fv : Value} {h : Nat} {N : List PNode} {ls : List PLet} {rs : List PRule} {fs : List Fact} (H : RuSt w wx cb r nv lv rv fv h N ls rs fs) (hb : Below wx.heap.size wx w') : RuSt w w' cb r nv lv rv fv h N ls rs fs := H.call (H.c.below hb) (But.of hb)
end Go.Proofs.YtjjbmbjmdgoofaaGreatDoor
namespace Go.Proofs.YtjjbmbjmdgoofaaGreatDoor
open Go.RowKit Go.Deep
end Go.Proofs.YtjjbmbjmdgoofaaGreatDoor
namespace Go.Proofs.YtjjbmbjmdgoofaaGreatDoor
open Go.RowKit Go.Deep
end Go.Proofs.YtjjbmbjmdgoofaaGreatDoor
namespace Go.Proofs.YtjjbmbjmdgoofaaGreatDoor
end Go.Proofs.YtjjbmbjmdgoofaaGreatDoor
namespace Go.Proofs.YtjjbmbjmdgoofaaGreatDoor
open Go.RowKit Go.Deep
end Go.Proofs.YtjjbmbjmdgoofaaGreatDoor
namespace Go.Proofs.YtjjbmbjmdgoofaaGreatDoor
open Go.RowKit Go.Deep
end Go.Proofs.YtjjbmbjmdgoofaaGreatDoor
namespace Go.Proofs.YtjjbmbjmdgoofaaGreatDoor
end Go.Proofs.YtjjbmbjmdgoofaaGreatDoor
namespace Go.Proofs.YtjjbmbjmdgoofaaGreatDoor
end Go.Proofs.YtjjbmbjmdgoofaaGreatDoor
namespace Go.Proofs.YtjjbmbjmdgoofaaGreatDoor
end Go.Proofs.YtjjbmbjmdgoofaaGreatDoor
namespace Go.Proofs.YtjjbmbjmdgoofaaGreatDoor
end Go.Proofs.YtjjbmbjmdgoofaaGreatDoor
namespace Go.Proofs.YtjjbmbjmdgoofaaGreatDoor
end Go.Proofs.YtjjbmbjmdgoofaaGreatDoor
namespace Go.Proofs.YtjjbmbjmdgoofaaGreatDoor
def LiesAt (N : List PNode) (b : Nat) (l : List PNode) : Prop := ∀ (k : Nat) (n : PNode), l[k]? = some n → N[b + k]? = some n
theorem LiesAt.left {N : List PNode} {b : Nat} {l m : List PNode} (h : LiesAt N b (l ++ m)) : LiesAt N b l := fun k n hk => h k n (by
  rw [List.getElem?_append_left (List.getElem?_eq_some_iff.1 hk).1]; exact hk)
theorem LiesAt.right {N : List PNode} {b : Nat} {l m : List PNode} (h : LiesAt N b (l ++ m)) : LiesAt N (b + l.length) m := fun k n hk => by
  have := h (l.length + k) n (by rw [List.getElem?_append_right (by omega), Nat.add_sub_cancel_left]; exact hk)
  rw [Nat.add_assoc]; exact this
end Go.Proofs.YtjjbmbjmdgoofaaGreatDoor
namespace Go.Proofs.YtjjbmbjmdgoofaaGreatDoor
end Go.Proofs.YtjjbmbjmdgoofaaGreatDoor
namespace Go.Proofs.YtjjbmbjmdgoofaaGreatDoor
def Ends (s : ByteArray) (x : Itm) (y : Bn) (p : Nat) (r : Nat × Int × Nat) : Prop := ∀ f n, r.2.2 ≤ f → runM s x y f p [] n = (r.1, r.2.1, n + r.2.2)
end Go.Proofs.YtjjbmbjmdgoofaaGreatDoor
namespace Go.Proofs.YtjjbmbjmdgoofaaGreatDoor
section
variable (ls : List PLet) (N : List PNode) (x : Itm) (y : Bn)
end
end Go.Proofs.YtjjbmbjmdgoofaaGreatDoor
namespace Go.Proofs.YtjjbmbjmdgoofaaGreatDoor
open Go.RowKit Go.Deep
structure Plc where
  id : Int
  score : Int
def cellQ (p : Plc) : List Value := [.int .i64 p.id, .int .i64 p.score]
def cellsQ (l : List Plc) : List Value := l.flatMap cellQ
structure WSt (w wr : World) (B : Nat) (vl v : Value) (l acc : List Plc) : Prop where
  own : wr.ownsRow B 88 2 v acc.length (cellsQ acc)
  rd : Reads wr vl l.length (cellsQ l)
  hB : w.heap.size ≤ B
  bl : Below w.heap.size w wr
theorem WSt.below {w wr w' : World} {B : Nat} {vl v : Value} {l acc : List Plc} (h : WSt w wr B vl v l acc) (hb : Below wr.heap.size wr w') : WSt w w' B vl v l acc := ⟨own_below h.own hb, h.rd.below hb, h.hB, h.bl.trans (hb.mono h.bl.size)⟩
end Go.Proofs.YtjjbmbjmdgoofaaGreatDoor
namespace Go.Proofs.YtjjbmbjmdgoofaaGreatDoor
open Go.RowKit Go.Deep
structure VSt (w wr : World) (vl v : Value) (l acc : List Plc) (p : Plc) : Prop where
  s : WSt w wr (w.heap.size + 1) vl v l acc
  bx : Blk wr w.heap.size #[.int .i64 p.id, .int .i64 p.score] 88
theorem VSt.below {w wr w' : World} {vl v : Value} {l acc : List Plc} {p : Plc} (h : VSt w wr vl v l acc p) (hb : Below wr.heap.size wr w') : VSt w w' vl v l acc p := ⟨h.s.below hb, h.bx.below hb h.bx.lt⟩
end Go.Proofs.YtjjbmbjmdgoofaaGreatDoor
namespace Go.Proofs.YtjjbmbjmdgoofaaGreatDoor
open Go.RowKit
end Go.Proofs.YtjjbmbjmdgoofaaGreatDoor
namespace Go.Proofs.YtjjbmbjmdgoofaaGreatDoor
open Go.RowKit
structure GlobP (w : World) : Prop where
  bytes : ∀ c, c < 18 → w.cell? ⟨0, c, none⟩ = some (.int .i64 (behindN c))
  takes : ∀ c, c < 18 → w.cell? ⟨1, c, none⟩ = some (.int .i64 (takesN c))
  lays : ∀ c, c < 18 → w.cell? ⟨2, c, none⟩ = some (.int .i64 (laysN c))
  size : 0 < w.heap.size ∧ 1 < w.heap.size ∧ 2 < w.heap.size
theorem GlobP.below {w w' : World} (h : GlobP w) (hb : Below w.heap.size w w') : GlobP w' :=
  ⟨fun c hc => (hb.cell (p := ⟨0, c, none⟩) h.size.1).trans (h.bytes c hc), fun c hc => (hb.cell (p := ⟨1, c, none⟩) h.size.2.1).trans (h.takes c hc), fun c hc => (hb.cell (p := ⟨2, c, none⟩) h.size.2.2).trans (h.lays c hc), ⟨Nat.lt_of_lt_of_le h.size.1 hb.size, Nat.lt_of_lt_of_le h.size.2.1 hb.size, Nat.lt_of_lt_of_le h.size.2.2 hb.size⟩⟩
structure GlobY (w : World) : Prop where
  bytes : ∀ c, c < 18 → w.cell? ⟨0, c, none⟩ = some (.int .i64 (behindN c))
  size : 0 < w.heap.size
theorem GlobY.below {w w' : World} (h : GlobY w) (hb : Below w.heap.size w w') : GlobY w' :=
  ⟨fun c hc => (hb.cell (p := ⟨0, c, none⟩) h.size).trans (h.bytes c hc), Nat.lt_of_lt_of_le h.size hb.size⟩
end Go.Proofs.YtjjbmbjmdgoofaaGreatDoor
namespace Go.Proofs.YtjjbmbjmdgoofaaGreatDoor
open Go.RowKit
end Go.Proofs.YtjjbmbjmdgoofaaGreatDoor
namespace Go.Proofs.YtjjbmbjmdgoofaaGreatDoor
open Go.RowKit
end Go.Proofs.YtjjbmbjmdgoofaaGreatDoor
namespace Go.Proofs.YtjjbmbjmdgoofaaGreatDoor
open Go.RowKit
end Go.Proofs.YtjjbmbjmdgoofaaGreatDoor
namespace Go.Proofs.YtjjbmbjmdgoofaaGreatDoor
open Go.RowKit
def arrH (hs : Nat → Int) (n : Nat) : Array Value := ((List.range n).map fun q => Value.int .i64 (hs q)).toArray
theorem own_setCell {w : World} {base : Nat} {e : TypeId} {size : Nat} {v : Value} {n : Nat} {xs : List Value} (h : w.ownsRow base e size v n xs) (p : Addr) (x : Value) (hp : p.block < base) : (w.setCell p x).ownsRow base e size v n xs := by
  refine ⟨h.1, ?_⟩
  rcases h.2 with hn | ⟨g, cap, cur, rfl, hbg, hg, r⟩
  · exact .inl hn
  · exact .inr ⟨g, cap, cur, rfl, hbg, by rw [Below.heap_setCell _ _ _ _ (by omega)]; exact hg, r⟩
end Go.Proofs.YtjjbmbjmdgoofaaGreatDoor
namespace Go.Proofs.YtjjbmbjmdgoofaaGreatDoor
open Go.RowKit
def verCells (s : ByteArray) (most : Nat) (hb : Nat) (wg : Bool) : Array Value := #[.string s, .int .i64 most, .slice (some ⟨hb, 0, none⟩) s.size s.size, .bool wg]
structure VStv (w : World) (vb hb : Nat) (s : ByteArray) (most : Nat) (H : Nat → Int) (wg : Bool) : Prop where
  st : Blk w vb (verCells s most hb wg) 138
  ht : Blk w hb (arrH H s.size) 3
  ne : hb ≠ vb
theorem VStv.below {w w' : World} {vb hb : Nat} {s : ByteArray} {most : Nat} {H : Nat → Int} {wg : Bool} (h : VStv w vb hb s most H wg) (hbl : Below w.heap.size w w') : VStv w' vb hb s most H wg :=
  ⟨h.st.below hbl h.st.lt, h.ht.below hbl h.ht.lt, h.ne⟩
end Go.Proofs.YtjjbmbjmdgoofaaGreatDoor
