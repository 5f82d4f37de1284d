/-
  policy: out of raw bytes.
-/
import Derived.Test.YtjjbmbjmdgoofaaGreatDoorB48
set_option linter.unusedVariables false
set_option linter.unusedSimpArgs false
namespace Go.Proofs.YtjjbmbjmdgoofaaGreatDoor
open Go.RowKit Go.Deep
theorem RSay.nul {K K2 S S2 : Nat} {V V2 : Int} {d d2 : Bool} {r : MadeR} (h : RSay K V S d K2 V2 S2 d2 r) : d2 = false → K2 = 0 ∧ V2 = 0 := fun e => by
  rcases h with ⟨_, _, _, _, rfl⟩ | ⟨_, rfl, _⟩ | ⟨_, _, h1, h2, _⟩
  · cases e
  · cases e
  · exact ⟨h1, h2⟩
theorem does7 {C : Ctx → Prop} {x : Itm} {y : Bn} (hC : ∀ E, C E → E.Ok ∧ E.x = x ∧ E.y = y) (hx : x.Ok) (hy : y.Ok) (mb fb : Nat) (l0 l1 l2 l3 l4 l5 : Value) (st : Bool) (P S : Nat) (hP : 1 ≤ P ∧ P ≤ 6) (hS : 1 ≤ S ∧ S ≤ 7)
    (hnum : ∀ w, MakAt w mb fb x y l0 l1 l2 l3 l4 l5 st → Calls Tryz.prog 50 #[.pointer (some ⟨mb, 0, none⟩)] w fun e w' => (∃ t k, Pc C t 6 k 1 10 0 P S st ∧ e = .returned (pcV t 6 k)) ∧ MakAt w' mb fb x y l0 l1 l2 l3 l4 l5 st ∧ But fb w w') :
    SumDoes C mb fb x y l0 l1 l2 l3 l4 l5 st 37 3 (2 * P + 4) (2 * S + 5) 1 ∧ SumDoes C mb fb x y l0 l1 l2 l3 l4 l5 st 83 5 (4 * P + 10) (4 * S + 13) 2 ∧ TestDoes C mb fb x y l0 l1 l2 l3 l4 l5 st 56 4 16 27 1 := by
  have s0 := sum_zero mb fb x y l0 l1 l2 l3 l4 l5 st P S hP.2 hS.2 (fun E hE => (hC E hE).1) hnum
  have s1 := sum_succ mb fb x y l0 l1 l2 l3 l4 l5 st 14 1 (P + 1) (S + 1) 0 (by omega) (by omega) (by omega) (fun E hE => (hC E hE).1) s0
  have e1 : P + 1 + (P + 1) + 2 = 2 * P + 4 := by omega
  have e2 : S + 1 + (S + 1) + 3 = 2 * S + 5 := by omega
  rw [e1, e2] at s1
  have s2 := sum_succ mb fb x y l0 l1 l2 l3 l4 l5 st 37 3 (2 * P + 4) (2 * S + 5) 1 (by omega) (by omega) (by omega) (fun E hE => (hC E hE).1) s1
  have e1 : 2 * P + 4 + (2 * P + 4) + 2 = 4 * P + 10 := by omega
  have e2 : 2 * S + 5 + (2 * S + 5) + 3 = 4 * S + 13 := by omega
  rw [e1, e2] at s2
  have t0 := test_zero mb fb x y l0 l1 l2 l3 l4 l5 st hC (any_class hC hx hy mb fb l0 l1 l2 l3 l4 l5 st (Nat.le_refl _) (Nat.le_refl _) (Nat.le_refl _))
  have t1 := test_succ mb fb x y l0 l1 l2 l3 l4 l5 st 21 2 7 12 0 (by omega) (by omega) (by omega) hC (any_class hC hx hy mb fb l0 l1 l2 l3 l4 l5 st (by omega) (by omega) (by omega)) (s0.more (by omega) (by omega) (by omega) (by omega)) (t0.more (by omega) (by omega) (by omega) (by omega))
  exact ⟨s1, s2, t1⟩
structure PolC (x : Itm) (y : Bn) (mb fb : Nat) (l0 l1 l2 l3 l4 l5 : Value) (C : Ctx → Prop) (T0 : ByteArray) : Prop where
  fine : ∀ (rs : List MadeR) (T : ByteArray), rs ≠ [] → rs.length ≤ 2 → (∀ r ∈ rs, ∀ E, C E → IsO E r.1 2 25 ∧ IsO E r.2 1 50) → T.toList = T0.toList ++ rulesT rs → T.size ≤ 400 → ∃ L R, FineP T.toList x y (rulesO rs) L R
  len : T0.size ≤ 47
  s2 : SumDoes C mb fb x y l0 l1 l2 l3 l4 l5 false 83 5 34 41 2
  s1 : SumDoes C mb fb x y l0 l1 l2 l3 l4 l5 false 83 5 34 41 1
  t1 : TestDoes C mb fb x y l0 l1 l2 l3 l4 l5 false 56 4 16 27 1
theorem polC_none {x : Itm} {y : Bn} (hx : x.Ok) (hy : y.Ok) (mb fb : Nat) : PolC x y mb fb (.string { data := #[] }) (.int .i64 0) (.int .i64 0) (.int .i64 0) (.int .i64 0) (.bool false) (fun E => E = ctx0 x y) ⟨#[]⟩ := by
  obtain ⟨a, b, c⟩ := does7 (C := fun E => E = ctx0 x y) (fun E hE => by subst hE; exact ⟨ctx0_ok x y, rfl, rfl⟩) hx hy mb fb (.string { data := #[] }) (.int .i64 0) (.int .i64 0) (.int .i64 0) (.int .i64 0) (.bool false) false 1 1 (by omega) (by omega) (none_num hx hy mb fb false)
  refine ⟨fun rs T hne h2 hr ht hl => ?_, by decide, b.more (by omega) (by omega) (by omega) (by omega), a.more (by omega) (by omega) (by omega) (by omega), c⟩
  rw [show (⟨#[]⟩ : ByteArray).toList = [] from toL_mk _, List.nil_append] at ht
  rw [ht]
  exact made_none (fun r h => hr r h _ rfl) hne h2 (by rw [← ht, toList_length]; exact hl)
def letB (t : ByteArray) : ByteArray := ⟨#[108, 101, 116, 32, 107, 107, 32, 61, 32]⟩ ++ t ++ ⟨#[59]⟩
theorem letB_list (t : ByteArray) : (letB t).toList = letT t.toList ++ [59] := by
  unfold letB
  rw [toL_app, toL_app, show (⟨#[108, 101, 116, 32, 107, 107, 32, 61, 32]⟩ : ByteArray).toList = [108, 101, 116, 32, 107, 107, 32, 61, 32] from toL_mk _, show (⟨#[59]⟩ : ByteArray).toList = [59] from toL_mk _]
  simp [letT, cLet, cKk, cEq]
theorem letB_size (t : ByteArray) : (letB t).size = t.size + 10 := by
  have e1 : (⟨#[108, 101, 116, 32, 107, 107, 32, 61, 32]⟩ : ByteArray).size = 9 := rfl
  have e2 : (⟨#[59]⟩ : ByteArray).size = 1 := rfl
  unfold letB
  rw [ByteArray.size_append, ByteArray.size_append, e1, e2]
  omega
theorem polC_some {x : Itm} {y : Bn} (hx : x.Ok) (hy : y.Ok) (mb fb : Nat) {t : ByteArray} {b : Nat} {k : Wo} (hp : Pc (fun E => E = ctx0 x y) t b k 1 37 3 6 7 false) : PolC x y mb fb (.string ⟨#[107, 107]⟩) (.int .i64 6) (.int .i64 k.v) (.int .i64 k.flt) (.int .i64 k.steps) (.bool k.fix) (fun E => ∃ n, n ≤ 6 ∧ E = ctx1 x y k n) (letB t) := by
  have hCC : ∀ E, (fun E => ∃ n, n ≤ 6 ∧ E = ctx1 x y k n) E → E.Ok ∧ E.x = x ∧ E.y = y := fun E hE => by
    obtain ⟨n, _, rfl⟩ := hE
    exact ⟨ctx1_ok x y k n, rfl, rfl⟩
  have hkk : Pc (fun E => ∃ n, n ≤ 6 ∧ E = ctx1 x y k n) ⟨#[107, 107]⟩ 6 k 1 10 0 6 7 false := by
    refine ⟨⟨0, by simp [brB], fun E hE => ?_⟩, by decide, by omega, by omega, hp.fit, hp.steps, hp.one, fun h => by cases h⟩
    obtain ⟨n, hn, rfl⟩ := hE
    rw [show (⟨#[107, 107]⟩ : ByteArray).toList = cKk from toL_mk _]
    exact (kk_is x y k n).mono (Nat.le_refl _) (Nat.le_refl _) hn
  obtain ⟨a, bb, c⟩ := does7 hCC hx hy mb fb (.string ⟨#[107, 107]⟩) (.int .i64 6) (.int .i64 k.v) (.int .i64 k.flt) (.int .i64 k.steps) (.bool k.fix) false 6 7 (by omega) (by omega) (fun w h => by
    refine (number_any mb fb x y ⟨#[107, 107]⟩ 6 (fun _ => rfl) k false w h).mono ?_
    rintro e w' ⟨⟨t', k', hn, he⟩, h1, h2⟩
    exact ⟨⟨t', k', num_pc hCC hx hy (by omega) (by omega) (fun _ => hkk) hn, he⟩, h1, h2⟩)
  refine ⟨fun rs T hne h2 hr ht hl => ?_, by rw [letB_size]; have := hp.size; omega, bb.more (by omega) (by omega) (by omega) (by omega), a.more (by omega) (by omega) (by omega) (by omega), c⟩
  rw [letB_list] at ht
  rw [ht]
  obtain ⟨dd, hd, hi⟩ := hp.is
  exact made_some ((hi _ rfl).mono hp.b1 (by omega) (Nat.le_refl _)) (fun n hn r h => hr r h _ ⟨n, hn, rfl⟩) hne h2 (by rw [← ht, toList_length]; exact hl)
structure PoM (w wx : World) (x : Itm) (y : Bn) (l0 l1 l2 l3 l4 l5 : Value) (c : Array Value) : Prop where
  mak : MakAt wx (w.heap.size + 1 + 1 + 1 + 1) (w.heap.size + 1 + 1 + 1) x y l0 l1 l2 l3 l4 l5 false
  out : Blk wx (w.heap.size + 1 + 1) (mg ⟨#[]⟩ 0 0 0) 25
  pp : Blk wx (w.heap.size + 1 + 1 + 1 + 1 + 1) c 25
  bl : Below w.heap.size w wx
theorem size_al (w : World) (o : Obj) : (w.alloc o).heap.size = w.heap.size + 1 := by simp
section
variable {w wx w' : World} {x : Itm} {y : Bn} {l0 l1 l2 l3 l4 l5 : Value} {c : Array Value}
theorem poM_start (w : World) (x : Itm) (y : Bn) (s : ByteArray) (hs : s.size ≤ maxLen) : PoM w ((((((w.alloc (.cells #[.int .i64 x.size, .int .i64 x.speed, .int .i64 x.need] 28)).alloc (.cells #[.int .i64 y.id, .int .i64 y.zone, .int .i64 y.cap, .int .i64 y.used, .int .i64 y.has] 31)).alloc (.cells (mg ⟨#[]⟩ 0 0 0) 25)).alloc (.cells #[.string s, .int .i64 0] 35)).alloc (.cells #[.pointer (some ⟨w.heap.size + 1 + 1 + 1, 0, none⟩), .int .i64 x.size, .int .i64 x.speed, .int .i64 x.need, .int .i64 y.id, .int .i64 y.zone, .int .i64 y.cap, .int .i64 y.used, .int .i64 y.has, .string { data := #[] }, .int .i64 0, .int .i64 0, .int .i64 0, .int .i64 0, .bool false, .bool false] 68)).alloc (.cells (mg ⟨#[]⟩ 0 0 0) 25)) x y (.string { data := #[] }) (.int .i64 0) (.int .i64 0) (.int .i64 0) (.int .i64 0) (.bool false) (mg ⟨#[]⟩ 0 0 0) := by
  have a3 := Blk.new ((w.alloc (.cells #[.int .i64 x.size, .int .i64 x.speed, .int .i64 x.need] 28)).alloc (.cells #[.int .i64 y.id, .int .i64 y.zone, .int .i64 y.cap, .int .i64 y.used, .int .i64 y.has] 31)) (mg ⟨#[]⟩ 0 0 0) 25
  have a4 := Blk.new (((w.alloc (.cells #[.int .i64 x.size, .int .i64 x.speed, .int .i64 x.need] 28)).alloc (.cells #[.int .i64 y.id, .int .i64 y.zone, .int .i64 y.cap, .int .i64 y.used, .int .i64 y.has] 31)).alloc (.cells (mg ⟨#[]⟩ 0 0 0) 25)) #[.string s, .int .i64 0] 35
  have a5 := Blk.new ((((w.alloc (.cells #[.int .i64 x.size, .int .i64 x.speed, .int .i64 x.need] 28)).alloc (.cells #[.int .i64 y.id, .int .i64 y.zone, .int .i64 y.cap, .int .i64 y.used, .int .i64 y.has] 31)).alloc (.cells (mg ⟨#[]⟩ 0 0 0) 25)).alloc (.cells #[.string s, .int .i64 0] 35)) #[.pointer (some ⟨w.heap.size + 1 + 1 + 1, 0, none⟩), .int .i64 x.size, .int .i64 x.speed, .int .i64 x.need, .int .i64 y.id, .int .i64 y.zone, .int .i64 y.cap, .int .i64 y.used, .int .i64 y.has, .string { data := #[] }, .int .i64 0, .int .i64 0, .int .i64 0, .int .i64 0, .bool false, .bool false] 68
  have a6 := Blk.new (((((w.alloc (.cells #[.int .i64 x.size, .int .i64 x.speed, .int .i64 x.need] 28)).alloc (.cells #[.int .i64 y.id, .int .i64 y.zone, .int .i64 y.cap, .int .i64 y.used, .int .i64 y.has] 31)).alloc (.cells (mg ⟨#[]⟩ 0 0 0) 25)).alloc (.cells #[.string s, .int .i64 0] 35)).alloc (.cells #[.pointer (some ⟨w.heap.size + 1 + 1 + 1, 0, none⟩), .int .i64 x.size, .int .i64 x.speed, .int .i64 x.need, .int .i64 y.id, .int .i64 y.zone, .int .i64 y.cap, .int .i64 y.used, .int .i64 y.has, .string { data := #[] }, .int .i64 0, .int .i64 0, .int .i64 0, .int .i64 0, .bool false, .bool false] 68)) (mg ⟨#[]⟩ 0 0 0) 25
  simp only [size_al] at a3 a4 a5 a6
  refine ⟨⟨a5.alloc _, ⟨s, 0, (a4.alloc _).alloc _, Nat.zero_le _, hs⟩, by omega⟩, ((a3.alloc _).alloc _).alloc _, a6, ?_⟩
  exact ((((((Below.refl w.heap.size w).alloc (Nat.le_refl _) _).alloc (by simp) _).alloc (by simp; omega) _).alloc (by simp; omega) _).alloc (by simp; omega) _).alloc (by simp; omega) _
theorem PoM.call (h : PoM w wx x y l0 l1 l2 l3 l4 l5 c) (hM : MakAt w' (w.heap.size + 1 + 1 + 1 + 1) (w.heap.size + 1 + 1 + 1) x y l0 l1 l2 l3 l4 l5 false) (hB : But (w.heap.size + 1 + 1 + 1) wx w') : PoM w w' x y l0 l1 l2 l3 l4 l5 c :=
  ⟨hM, h.out.but hB (by omega), h.pp.but hB (by omega), h.bl.trans (hB.below (by omega) h.bl.size)⟩
theorem PoM.next (h : PoM w wx x y l0 l1 l2 l3 l4 l5 c) (hF : FeedAt w' (w.heap.size + 1 + 1 + 1)) (hB : But (w.heap.size + 1 + 1 + 1) wx w') : PoM w w' x y l0 l1 l2 l3 l4 l5 c := h.call (h.mak.next hF hB) hB
theorem PoM.al (h : PoM w wx x y l0 l1 l2 l3 l4 l5 c) (o : Obj) : PoM w (wx.alloc o) x y l0 l1 l2 l3 l4 l5 c := h.call (h.mak.below (box3 wx o)) (But.of (box3 wx o))
theorem PoM.setP (h : PoM w wx x y l0 l1 l2 l3 l4 l5 c) (i : Nat) (v : Value) : PoM w (wx.setCell ⟨w.heap.size + 1 + 1 + 1 + 1 + 1, i, none⟩ v) x y l0 l1 l2 l3 l4 l5 (c.setIfInBounds i v) :=
  ⟨⟨h.mak.blk.other _ _ (by simp only; omega), h.mak.fed.other _ _ _ (by omega), h.mak.ne⟩, h.out.other _ _ (by simp only; omega), h.pp.set i v, h.bl.setCell (p := ⟨w.heap.size + 1 + 1 + 1 + 1 + 1, i, none⟩) (by simp only; omega) v⟩
theorem PoM.facts (h : PoM w wx x y l0 l1 l2 l3 l4 l5 c) : (∀ i, wx.cell? ⟨w.heap.size + 1 + 1 + 1 + 1 + 1, i, none⟩ = c[i]?) ∧ (∀ i, wx.frozen? ⟨w.heap.size + 1 + 1 + 1 + 1 + 1, i, none⟩ = false) ∧ (∀ i, wx.cell? ⟨w.heap.size + 1 + 1, i, none⟩ = (mg ⟨#[]⟩ 0 0 0)[i]?) ∧ (∀ i, wx.frozen? ⟨w.heap.size + 1 + 1, i, none⟩ = false) ∧ (∀ i, wx.frozen? ⟨w.heap.size + 1 + 1 + 1 + 1, i, none⟩ = false) ∧ wx.cell? ⟨w.heap.size + 1 + 1 + 1 + 1, 0, none⟩ = some (.pointer (some ⟨w.heap.size + 1 + 1 + 1, 0, none⟩)) := ⟨h.pp.cell, h.pp.free, h.out.cell, h.out.free, h.mak.blk.free, h.mak.blk.cell 0⟩
theorem PoM.let (h : PoM w wx x y l0 l1 l2 l3 l4 l5 c) (a0 a1 a2 a3 a4 a5 : Value) : PoM w ((((((wx.setCell ⟨w.heap.size + 1 + 1 + 1 + 1, 9, none⟩ a0).setCell ⟨w.heap.size + 1 + 1 + 1 + 1, 10, none⟩ a1).setCell ⟨w.heap.size + 1 + 1 + 1 + 1, 11, none⟩ a2).setCell ⟨w.heap.size + 1 + 1 + 1 + 1, 12, none⟩ a3).setCell ⟨w.heap.size + 1 + 1 + 1 + 1, 13, none⟩ a4).setCell ⟨w.heap.size + 1 + 1 + 1 + 1, 14, none⟩ a5) x y a0 a1 a2 a3 a4 a5 c := by
  have hb := (((((h.mak.blk.set 9 a0).set 10 a1).set 11 a2).set 12 a3).set 13 a4).set 14 a5
  have ho : ∀ (wz : World) (b : Nat) (cs : Array Value) (t : TypeId) (i : Nat) (v : Value), b ≠ w.heap.size + 1 + 1 + 1 + 1 → Blk wz b cs t → Blk (wz.setCell ⟨w.heap.size + 1 + 1 + 1 + 1, i, none⟩ v) b cs t := fun wz b cs t i v hne hz => hz.other _ _ (by simp only; omega)
  have hf : ∀ (wz : World) (i : Nat) (v : Value), FeedAt wz (w.heap.size + 1 + 1 + 1) → FeedAt (wz.setCell ⟨w.heap.size + 1 + 1 + 1 + 1, i, none⟩ v) (w.heap.size + 1 + 1 + 1) := fun wz i v hz => hz.other _ _ _ (by omega)
  have hs : ∀ (wz : World) (i : Nat) (v : Value), Below w.heap.size w wz → Below w.heap.size w (wz.setCell ⟨w.heap.size + 1 + 1 + 1 + 1, i, none⟩ v) := fun wz i v hz => hz.setCell (p := ⟨w.heap.size + 1 + 1 + 1 + 1, i, none⟩) (by simp only; omega) v
  exact ⟨⟨hb, hf _ _ _ (hf _ _ _ (hf _ _ _ (hf _ _ _ (hf _ _ _ (hf _ _ _ h.mak.fed))))), h.mak.ne⟩, ho _ _ _ _ _ _ (by omega) (ho _ _ _ _ _ _ (by omega) (ho _ _ _ _ _ _ (by omega) (ho _ _ _ _ _ _ (by omega) (ho _ _ _ _ _ _ (by omega) (ho _ _ _ _ _ _ (by omega) h.out))))), ho _ _ _ _ _ _ (by omega) (ho _ _ _ _ _ _ (by omega) (ho _ _ _ _ _ _ (by omega) (ho _ _ _ _ _ _ (by omega) (ho _ _ _ _ _ _ (by omega) (ho _ _ _ _ _ _ (by omega) h.pp))))), hs _ _ _ (hs _ _ _ (hs _ _ _ (hs _ _ _ (hs _ _ _ (hs _ _ _ h.bl)))))⟩
def finV (w wx : World) (a b c d : Value) : World := (((wx.setCell ⟨w.heap.size + 1 + 1, 0, none⟩ a).setCell ⟨w.heap.size + 1 + 1, 1, none⟩ b).setCell ⟨w.heap.size + 1 + 1, 2, none⟩ c).setCell ⟨w.heap.size + 1 + 1, 3, none⟩ d
theorem PoM.fin (h : PoM w wx x y l0 l1 l2 l3 l4 l5 c) (a b k d : Value) : (∀ i, (finV w wx a b k d).cell? ⟨w.heap.size + 1 + 1, i, none⟩ = #[a, b, k, d][i]?) ∧ Below w.heap.size w (finV w wx a b k d) :=
  ⟨((((h.out.set 0 a).set 1 b).set 2 k).set 3 d).cell, (((h.bl.setCell (p := ⟨w.heap.size + 1 + 1, 0, none⟩) (by simp only; omega) a).setCell (p := ⟨w.heap.size + 1 + 1, 1, none⟩) (by simp only; omega) b).setCell (p := ⟨w.heap.size + 1 + 1, 2, none⟩) (by simp only; omega) k).setCell (p := ⟨w.heap.size + 1 + 1, 3, none⟩) (by simp only; omega) d⟩
end
end Go.Proofs.YtjjbmbjmdgoofaaGreatDoor
