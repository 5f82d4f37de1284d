/-
  Images of known making: leaves; the whole image; and what is none: plain.
-/
import Derived.Test.YtbdjcffmpbjjlaaDoorBlt
set_option linter.unusedVariables false
set_option linter.unusedSimpArgs false
namespace Go.Proofs.YtbdjcffmpbjjlaaDoor
open Go.RowKit

def leafA (k : Nat) (x : Itm) (y : Bn) : PB := { code := [1, k], v := attrN k x y, flt := 0, steps := 1, high := 1 }
theorem leaf_seg {s : ByteArray} {p c : Nat} {h : Int} (ho : OpOkI s p) (hc : bt s p = c) (hk : c = 0 ∨ c = 1) (hh : 0 ≤ h) : ∃ l H, Seg s p (mkIns s p).next h (h + 1) (h + 1) l H := by
  have hop : (mkIns s p).op = c := hc
  have ht : takesN c = 0 ∧ laysN c = 1 := by rcases hk with rfl | rfl <;> exact ⟨rfl, rfl⟩
  have hf : ∀ r, Flows (mkIns s p) r ↔ r = (mkIns s p).next := by
    intro r
    constructor
    · rintro (⟨_, _, _, h⟩ | ⟨h, _⟩)
      · exact h
      · rw [hop] at h; omega
    · intro h
      exact .inl ⟨by omega, by omega, by omega, h⟩
  have g := seg_op (h := h) ho (by rw [hc, ht.1]; omega) hf
  rw [hc, ht.1, ht.2] at g
  exact ⟨_, _, g.cast rfl (by omega) (by omega)⟩
theorem leafA_ok {x : Itm} {y : Bn} (hx : x.Ok) (hy : y.Ok) {k : Nat} (hk : k < 7) : (leafA k x y).Ok x y := by
  have hop : ∀ s p, Sits s p [1, k] → OpOkI s p ∧ bt s p = 1 ∧ (mkIns s p).next = p + 2 ∧ (mkIns s p).arg = k := by
    intro s p hs
    obtain ⟨h1, h2⟩ := hs.head
    have b1 := hs 1 k rfl
    have hb : behindN 1 = 1 := rfl
    refine ⟨⟨h1, by omega, by rw [h2, hb]; omega, fun _ => by rw [b1.2]; omega⟩, h2, by simp only [mkIns, h2, hb], ?_⟩
    show IntKind.i64.wrap (lowU s (p + 1) (behindN (bt s p)) : Nat) = _
    rw [h2, hb, lowU_one, b1.2]
    exact wrap_small _ (by omega)
  refine ⟨fun s p hs => ?_, fun s p h hs hh => ?_, attr_in _ _ _ hx hy, by simp [leafA], by simp [leafA]⟩
  · obtain ⟨h1, h2, h3, h4⟩ := hop s p hs
    refine does_one (fun st => ?_)
    have e : p + (leafA k x y).code.length = (mkIns s p).next := by rw [h3]; rfl
    rw [e]
    unfold stepM
    have h5 : (mkIns s p).op = 1 := h2
    rw [h5]
    show Sum.inr ((mkIns s p).next, attrN (mkIns s p).arg x y :: st) = _
    rw [h4]
    rfl
  · obtain ⟨h1, h2, h3, h4⟩ := hop s p hs
    obtain ⟨l, H, g⟩ := leaf_seg h1 h2 (.inr rfl) hh
    exact ⟨l, H, g.cast (by rw [h3]; rfl) rfl rfl⟩
/-- So many bytes of a number, the lowest first. -/
def bytesN : Nat → Nat → List Nat
  | _, 0 => []
  | u, n + 1 => u % 256 :: bytesN (u / 256) n
theorem bytesN_length : ∀ (n u : Nat), (bytesN u n).length = n
  | 0, _ => rfl
  | n + 1, u => by simp only [bytesN, List.length_cons]; rw [bytesN_length n]
theorem bytes_low {s : ByteArray} : ∀ (n u p : Nat), Sits s p (bytesN u n) → lowU s p n = u % 256 ^ n
  | 0, u, p, _ => by simp [lowU, Nat.mod_one]
  | n + 1, u, p, hs => by
    have h1 := hs.head
    have h2 : Sits s (p + 1) (bytesN (u / 256) n) := Sits.right (c := [u % 256]) hs
    simp only [lowU]
    rw [h1.2, bytes_low n _ _ h2, Nat.pow_succ, Nat.mul_comm (256 ^ n) 256, Nat.mod_mul]
/-- The eight bytes of a number. -/
def eightC (v : Int) : List Nat := bytesN (v % 18446744073709551616).toNat 8
def leafI (v : Int) : PB := { code := 0 :: eightC v, v := v, flt := 0, steps := 1, high := 1 }
theorem eight_low {s : ByteArray} {p : Nat} {v : Int} (hs : Sits s p (eightC v)) : lowU s p 8 = (v % 18446744073709551616).toNat := by
  rw [bytes_low 8 _ _ hs]
  exact Nat.mod_eq_of_lt (by omega)
theorem leafI_ok {x : Itm} {y : Bn} {v : Int} (hv : In64 v) : (leafI v).Ok x y := by
  have hop : ∀ s p, Sits s p (0 :: eightC v) → OpOkI s p ∧ bt s p = 0 ∧ (mkIns s p).next = p + 9 ∧ (mkIns s p).arg = v := by
    intro s p hs
    obtain ⟨h1, h2⟩ := hs.head
    have b8 : p + 8 < s.size := by
      obtain ⟨c8, h8⟩ : ∃ c, (0 :: eightC v)[8]? = some c := ⟨_, List.getElem?_eq_getElem (by simp [eightC, bytesN_length])⟩
      exact (hs 8 c8 h8).1
    have hb : behindN 0 = 8 := rfl
    refine ⟨⟨h1, by omega, by rw [h2, hb]; omega, by omega⟩, h2, by simp only [mkIns, h2, hb], ?_⟩
    show IntKind.i64.wrap (lowU s (p + 1) (behindN (bt s p)) : Nat) = _
    have hs' : Sits s (p + 1) (eightC v) := Sits.right (c := [0]) hs
    rw [h2, hb, eight_low hs', IntKind.wrap_i64]
    unfold In64 at hv
    omega
  refine ⟨fun s p hs => ?_, fun s p h hs hh => ?_, hv, by simp [leafI], by simp [leafI]⟩
  · obtain ⟨h1, h2, h3, h4⟩ := hop s p hs
    refine does_one (fun st => ?_)
    have e : p + (leafI v).code.length = (mkIns s p).next := by rw [h3]; simp [leafI, eightC, bytesN_length]
    rw [e]
    unfold stepM
    have h5 : (mkIns s p).op = 0 := h2
    rw [h5]
    show Sum.inr ((mkIns s p).next, (mkIns s p).arg :: st) = _
    rw [h4]
    rfl
  · obtain ⟨h1, h2, h3, h4⟩ := hop s p hs
    obtain ⟨l, H, g⟩ := leaf_seg h1 h2 (.inl rfl) hh
    exact ⟨l, H, g.cast (by rw [h3]; simp [leafI, eightC, bytesN_length]) rfl rfl⟩
/-- The whole image's bytes. -/
def imgC (H : Nat) (c : List Nat) : List Nat := 83 :: 76 :: H :: c
theorem Sits.img {s : ByteArray} {H : Nat} {c : List Nat} (h : Sits s 0 (imgC H c)) : bt s 0 = 83 ∧ bt s 1 = 76 ∧ bt s 2 = H ∧ Sits s 3 c := by
  refine ⟨(h 0 _ rfl).2, (h 1 _ rfl).2, (h 2 _ rfl).2, ?_⟩
  have := Sits.right (c := [83, 76, H]) (d := c) h
  simpa using this
theorem score_op {s : ByteArray} {p : Nat} (h1 : p < s.size) (h2 : bt s p = 16) : OpOkI s p ∧ (mkIns s p).next = p + 1 := by
  have hb : behindN 16 = 0 := rfl
  exact ⟨⟨h1, by omega, by rw [h2, hb]; omega, by omega⟩, by simp only [mkIns, h2, hb]⟩
/-- It is an image. -/
theorem made_img {x : Itm} {y : Bn} {b : PB} (hb : b.Ok x y) {s : ByteArray} (hs : Sits s 0 (imgC b.high (b.code ++ [16]))) (hz : s.size = b.code.length + 4) (h4 : s.size ≤ 4000) (h1 : 1 ≤ b.code.length) : IsImg s := by
  obtain ⟨b0, b1, b2, hc⟩ := hs.img
  obtain ⟨l, H, g⟩ := hb.seg s 3 0 hc.left (by omega)
  have hsc := hc.right.head
  obtain ⟨ok, hn⟩ := score_op hsc.1 hsc.2
  refine ⟨⟨by omega, h4, b0, b1⟩, l ++ [mkIns s (3 + b.code.length)], ?_, H, ?_⟩
  · have := g.chain.snoc ok
    rw [hn] at this
    have e : 3 + b.code.length + 1 = s.size := by omega
    rw [e] at this
    exact this
  · rw [b2]
    refine g.lawful ok (.inl hsc.2) ?_ (by omega)
    rw [hsc.2]
    show ((1 : Nat) : Int) ≤ _
    omega
/-- What it does. -/
theorem made_run {x : Itm} {y : Bn} {b : PB} (hb : b.Ok x y) {s : ByteArray} {H : Nat} (hs : Sits s 0 (imgC H (b.code ++ [16]))) (f : Nat) (hf : b.steps + 1 ≤ f) : runM s x y f 3 [] 0 = if b.flt = 0 then (1, b.v, b.steps + 1) else (2, (b.flt : Int), b.steps) := by
  obtain ⟨_, _, _, hc⟩ := hs.img
  have hsc := hc.right.head
  rcases hb.does s 3 hc.left with ⟨h0, h1⟩ | ⟨h0, h1⟩
  · rw [if_pos h0]
    obtain ⟨f', rfl⟩ : ∃ f', f = (f' + 1) + b.steps := ⟨f - b.steps - 1, by omega⟩
    rw [h1]
    have hst : stepM x y (mkIns s (3 + b.code.length)) [b.v] = .inl (1, b.v) := by
      have h5 : (mkIns s (3 + b.code.length)).op = 16 := hsc.2
      unfold stepM
      rw [h5]
      rfl
    rw [runM_end hst]
    simp
  · rw [if_neg h0, h1 f [] 0 (by omega)]
    simp
/-- The operations of bytes that begin with a block are its own, then others. -/
theorem Seg.split {s : ByteArray} {q : Nat} {e hi : Int} {l l' : List Ins} {H : Nat → Int} (g : Seg s 3 q 0 e hi l H) (hc : Chain s 3 l' s.size) : ∃ r, l' = l ++ r ∧ Chain s q r s.size := g.chain.pre hc
/-- With less height it is none. -/
theorem low_none {x : Itm} {y : Bn} {b : PB} (hb : b.Ok x y) {s : ByteArray} {H : Nat} (hs : Sits s 0 (imgC H (b.code ++ [16]))) (hH : H < b.high) : ¬ IsImg s := by
  rintro ⟨_, l', hc', G, hl⟩
  obtain ⟨_, _, b2, hc⟩ := hs.img
  obtain ⟨l, H', g⟩ := hb.seg s 3 0 hc.left (by omega)
  have hsc := hc.right.head
  obtain ⟨ok, hn⟩ := score_op hsc.1 hsc.2
  obtain ⟨r, rfl, hr⟩ := g.split hc'
  cases r with
  | nil => have : 3 + b.code.length = s.size := hr; omega
  | cons o r =>
    obtain ⟨_, rfl, _⟩ := hr
    rw [b2] at hl
    exact g.tooHigh ok (by omega) r G hl
/-- Without its last operation it is none. -/
theorem cut_none {x : Itm} {y : Bn} {b : PB} (hb : b.Ok x y) {s : ByteArray} {H : Nat} (hs : Sits s 0 (imgC H b.code)) (hz : s.size = b.code.length + 3) : ¬ IsImg s := by
  rintro ⟨_, l', hc', G, hl⟩
  obtain ⟨_, _, b2, hc⟩ := hs.img
  obtain ⟨l, H', g⟩ := hb.seg s 3 0 hc (by omega)
  obtain ⟨r, rfl, hr⟩ := g.split hc'
  obtain ⟨o, ho, hf⟩ := g.out
  obtain ⟨o', ho', hp⟩ := ((hl.2 o (List.mem_append_left _ ho)).2.2.1 _ hf).1
  have := (hc'.mem o' ho').2.2.1.1
  omega
/-- With an operation behind that is never reached it is none. -/
theorem more_none {x : Itm} {y : Bn} {b : PB} (hb : b.Ok x y) {s : ByteArray} {H : Nat} (hs : Sits s 0 (imgC H (b.code ++ [16] ++ [17]))) : ¬ IsImg s := by
  rintro ⟨_, l', hc', G, hl⟩
  obtain ⟨_, _, b2, hc⟩ := hs.img
  obtain ⟨l, H', g⟩ := hb.seg s 3 0 hc.left.left (by omega)
  have hsc := hc.left.right.head
  have hrj := hc.right.head
  obtain ⟨ok, hn⟩ := score_op hsc.1 hsc.2
  obtain ⟨r, rfl, hr⟩ := g.split hc'
  cases r with
  | nil => have : 3 + b.code.length = s.size := hr; omega
  | cons o r =>
    obtain ⟨_, rfl, hr⟩ := hr
    rw [hn] at hr
    have e : 3 + (b.code ++ [16]).length = 3 + b.code.length + 1 := by simp; omega
    rw [e] at hrj
    cases r with
    | nil => have : 3 + b.code.length + 1 = s.size := hr; omega
    | cons o2 r =>
      obtain ⟨_, rfl, hr⟩ := hr
      rcases (hl.2 (mkIns s (3 + b.code.length + 1)) (by simp)).2.2.2 with h3 | ⟨o', ho', hf⟩
      · have : 3 + b.code.length + 1 = 3 := h3
        omega
      · rcases List.mem_append.1 ho' with h5 | h5
        · obtain ⟨b1, _⟩ := (g.ops o' h5).2.2 _ hf
          rcases b1 with b1 | ⟨o3, ho3, b1⟩
          · have : 3 + b.code.length + 1 = 3 + b.code.length := b1
            omega
          · have h6 := (g.before ho3).2
            have : o3.pos = 3 + b.code.length + 1 := b1
            omega
        · rcases List.mem_cons.1 h5 with rfl | h5
          · rcases hf with ⟨_, h6, _, _⟩ | ⟨h6, _⟩
            · exact h6 hsc.2
            · have h7 : (mkIns s (3 + b.code.length)).op = 16 := hsc.2
              omega
          · rcases List.mem_cons.1 h5 with rfl | h5
            · have := hf.lt
              have h6 : 3 + b.code.length + 1 < 3 + b.code.length + 1 := this
              omega
            · have hm := hr.mem o' h5
              have h8 := next_pos s (3 + b.code.length + 1)
              have h9 : o'.pos < 3 + b.code.length + 1 := by rw [hm.2.2.2] at hf; exact hf.lt
              omega
end Go.Proofs.YtbdjcffmpbjjlaaDoor
