/-
  The program's reader: a statement's tokens, one after the other; whether it has failed is left open.
-/
import Derived.Test.YtjjbmbjmdgoofaaGreatDoorG07
set_option linter.unusedVariables false
set_option linter.unusedSimpArgs false
namespace Go.Proofs.YtjjbmbjmdgoofaaGreatDoor
open Go.RowKit Go.Deep
structure Und (B : Nat) (S : RS) (w wr : World) (p : Spot) (l : List RTok) (G : Nat → List PNode → Prop) : Prop where
  kp : KeepN B w wr
  st : (∃ j nv ns, G j ns ∧ RdAt wr B { S with k := S.k + j, nv := nv, ns := ns }) ∨
    (∃ j nv ns, BadS p l j ∧ ns.length ≤ S.ns.length + j ∧ RdAt wr B { S with k := S.k + j, f := true, nv := nv, ns := ns })
theorem Und.below {B : Nat} {S : RS} {w wr w' : World} {p : Spot} {l : List RTok} {G : Nat → List PNode → Prop} (h : Und B S w wr p l G) (hb : Below wr.heap.size wr w') : Und B S w w' p l G := by
  refine ⟨h.kp.trans (KeepN.of hb), ?_⟩
  rcases h.st with ⟨j, nv, ns, hG, hR⟩ | ⟨j, nv, ns, hB, hn, hR⟩
  · exact .inl ⟨j, nv, ns, hG, hR.below hb⟩
  · exact .inr ⟨j, nv, ns, hB, hn, hR.below hb⟩
theorem Und.mono {B : Nat} {S : RS} {w wr : World} {p : Spot} {l : List RTok} {G G' : Nat → List PNode → Prop} (h : Und B S w wr p l G) (H : ∀ j ns, G j ns → G' j ns) : Und B S w wr p l G' := by
  refine ⟨h.kp, ?_⟩
  rcases h.st with ⟨j, nv, ns, hG, hR⟩ | h
  · exact .inl ⟨j, nv, ns, H j ns hG, hR⟩
  · exact .inr h
theorem Und.lt {B : Nat} {S : RS} {w wr : World} {p : Spot} {l : List RTok} {G : Nat → List PNode → Prop} (h : Und B S w wr p l G) : B < wr.heap.size := by
  rcases h.st with ⟨j, nv, ns, hG, hR⟩ | ⟨j, nv, ns, hB, hn, hR⟩
  · exact hR.blk.lt
  · exact hR.blk.lt
theorem Und.start {B : Nat} {S : RS} {w w1 : World} {p : Spot} {l : List RTok} (h : RdAt w1 B S) (hk : KeepN B w w1) : Und B S w w1 p l (fun j ns => j = 0 ∧ ns = S.ns) :=
  ⟨hk, .inl ⟨0, S.nv, S.ns, ⟨rfl, rfl⟩, h⟩⟩
theorem LeftR.at {S : RS} {l : List RTok} (h : LeftR S l) {j : Nat} (hj : j ≤ l.length) (S' : RS) (hT : S'.T = S.T) (hk : S'.k = S.k + j) : (∃ a, l[j]? = some a ∧ S'.T[S'.k]? = some a ∧ ∃ r, LeftR S' (a :: r)) ∨ (j = l.length ∧ ∃ E, S'.T[S'.k]? = some ⟨[], E⟩) := by
  have hd := h.drop hj S' hT hk
  cases hl : l.drop j with
  | nil =>
    rw [hl] at hd
    refine .inr ⟨?_, hd.nil⟩
    have := congrArg List.length hl
    simp at this
    omega
  | cons a r =>
    rw [hl] at hd
    refine .inl ⟨a, ?_, hd.head, r, hd⟩
    have := congrArg (fun x => x[0]?) hl
    simpa using this
theorem take_und {B : Nat} {S : RS} {w w1 : World} {p : Spot} {l : List RTok} {G G' : Nat → List PNode → Prop} (n : Nat) (hn0 : n ≠ 0) (hf : S.f = false) (hl : LeftR S l) (h : Und B S w w1 p l G)
    (H : ∀ j ns, G j ns → j ≤ l.length ∧ ns.length ≤ S.ns.length + j ∧ (∀ a, l[j]? = some a → kindP a.text = n → G' (j + 1) ns) ∧ ((∀ a, l[j]? = some a → kindP a.text ≠ n) → BadS p l j)) :
    Calls Tryz.prog 114 #[.pointer (some ⟨B, 0, none⟩), .int .i64 n] w1 fun e w2 => e = .returned (.tuple #[]) ∧ Und B S w w2 p l G' ∧ KeepN B w1 w2 := by
  rcases h.st with ⟨j, nv, ns, hG, hR⟩ | ⟨j, nv, ns, hB, hn, hR⟩
  · obtain ⟨h1, h2, h3, h4⟩ := H j ns hG
    rcases hl.at h1 ({ S with k := S.k + j, nv := nv, ns := ns } : RS) rfl rfl with ⟨a, ha, hT, r, hLr⟩ | ⟨hj, E, hT⟩
    · by_cases hk : kindP a.text = n
      · refine (take_at hR hLr n hf hk).mono ?_
        rintro e w2 ⟨rfl, hR2, hK2⟩
        exact ⟨rfl, ⟨h.kp.trans hK2, .inl ⟨j + 1, nv, ns, h3 a ha hk, hR2⟩⟩, hK2⟩
      · refine (take_not hR hT n (.inr hk)).mono ?_
        rintro e w2 ⟨rfl, hR2, hK2⟩
        exact ⟨rfl, ⟨h.kp.trans hK2, .inr ⟨j, nv, ns, h4 (fun a' ha' => by rw [ha] at ha'; cases ha'; exact hk), h2, hR2⟩⟩, hK2⟩
    · refine (take_not hR hT n (.inr (kind_end E n hn0))).mono ?_
      rintro e w2 ⟨rfl, hR2, hK2⟩
      exact ⟨rfl, ⟨h.kp.trans hK2, .inr ⟨j, nv, ns, h4 (fun a' ha' => by rw [List.getElem?_eq_none (by omega)] at ha'; cases ha'), h2, hR2⟩⟩, hK2⟩
  · obtain ⟨t, ht⟩ := hR.cur
    refine (take_not hR ht n (.inl rfl)).mono ?_
    rintro e w2 ⟨rfl, hR2, hK2⟩
    exact ⟨rfl, ⟨h.kp.trans hK2, .inr ⟨j, nv, ns, hB, hn, hR2⟩⟩, hK2⟩
theorem current_und {B : Nat} {S : RS} {w w1 : World} {p : Spot} {l : List RTok} {G : Nat → List PNode → Prop} (hl : LeftR S l) (h : Und B S w w1 p l G) (H : ∀ j ns, G j ns → j ≤ l.length) :
    Calls Tryz.prog 57 #[.pointer (some ⟨B, 0, none⟩)] w1 fun e w2 => ∃ t, e = .returned (tokA t) ∧ Below w1.heap.size w1 w2 ∧ Und B S w w2 p l (fun j ns => G j ns ∧ ∀ a, l[j]? = some a → a = t) := by
  rcases h.st with ⟨j, nv, ns, hG, hR⟩ | ⟨j, nv, ns, hB, hn, hR⟩
  · rcases hl.at (H j ns hG) ({ S with k := S.k + j, nv := nv, ns := ns } : RS) rfl rfl with ⟨a, ha, hT, r, hLr⟩ | ⟨hj, E, hT⟩
    · refine (current_at hR hT).mono ?_
      rintro e w2 ⟨rfl, hb2⟩
      exact ⟨a, rfl, hb2, h.kp.trans (KeepN.of hb2), .inl ⟨j, nv, ns, ⟨hG, fun a' ha' => by rw [ha] at ha'; cases ha'; rfl⟩, hR.below hb2⟩⟩
    · refine (current_at hR hT).mono ?_
      rintro e w2 ⟨rfl, hb2⟩
      exact ⟨_, rfl, hb2, h.kp.trans (KeepN.of hb2), .inl ⟨j, nv, ns, ⟨hG, fun a' ha' => by rw [List.getElem?_eq_none (by omega)] at ha'; cases ha'⟩, hR.below hb2⟩⟩
  · obtain ⟨t, ht⟩ := hR.cur
    refine (current_at hR ht).mono ?_
    rintro e w2 ⟨rfl, hb2⟩
    exact ⟨t, rfl, hb2, h.kp.trans (KeepN.of hb2), .inr ⟨j, nv, ns, hB, hn, hR.below hb2⟩⟩
theorem sees_und {B : Nat} {S : RS} {w w1 : World} {p : Spot} {l : List RTok} {G : Nat → List PNode → Prop} (n : Nat) (hn0 : n ≠ 0) (hf : S.f = false) (hl : LeftR S l) (h : Und B S w w1 p l G) (H : ∀ j ns, G j ns → j ≤ l.length) :
    Calls Tryz.prog 85 #[.pointer (some ⟨B, 0, none⟩), .int .i64 n] w1 fun e w2 => ∃ b, e = .returned (.bool b) ∧ Below w1.heap.size w1 w2 ∧
      (b = true → Und B S w w2 p l (fun j ns => G j ns ∧ ∃ a, l[j]? = some a ∧ kindP a.text = n)) ∧ (b = false → Und B S w w2 p l (fun j ns => G j ns ∧ ∀ a, l[j]? = some a → kindP a.text ≠ n)) := by
  rcases h.st with ⟨j, nv, ns, hG, hR⟩ | ⟨j, nv, ns, hB, hn, hR⟩
  · rcases hl.at (H j ns hG) ({ S with k := S.k + j, nv := nv, ns := ns } : RS) rfl rfl with ⟨a, ha, hT, r, hLr⟩ | ⟨hj, E, hT⟩
    · refine (sees_at hR hT n).mono ?_
      rintro e w2 ⟨rfl, hb2⟩
      simp only [hf, Bool.not_false, Bool.true_and]
      refine ⟨_, rfl, hb2, fun hb => ?_, fun hb => ?_⟩
      · exact ⟨h.kp.trans (KeepN.of hb2), .inl ⟨j, nv, ns, ⟨hG, a, ha, by simpa using hb⟩, hR.below hb2⟩⟩
      · exact ⟨h.kp.trans (KeepN.of hb2), .inl ⟨j, nv, ns, ⟨hG, fun a' ha' => by rw [ha] at ha'; cases ha'; simpa using hb⟩, hR.below hb2⟩⟩
    · refine (sees_at hR hT n).mono ?_
      rintro e w2 ⟨rfl, hb2⟩
      simp only [hf, Bool.not_false, Bool.true_and]
      refine ⟨_, rfl, hb2, fun hb => ?_, fun hb => ?_⟩
      · exact absurd (by simpa using hb) (kind_end E n hn0)
      · exact ⟨h.kp.trans (KeepN.of hb2), .inl ⟨j, nv, ns, ⟨hG, fun a' ha' => by rw [List.getElem?_eq_none (by omega)] at ha'; cases ha'⟩, hR.below hb2⟩⟩
  · obtain ⟨t, ht⟩ := hR.cur
    refine (sees_at hR ht n).mono ?_
    rintro e w2 ⟨rfl, hb2⟩
    simp only [Bool.not_true, Bool.false_and]
    refine ⟨_, rfl, hb2, fun hb => (by cases hb), fun hb => ?_⟩
    exact ⟨h.kp.trans (KeepN.of hb2), .inr ⟨j, nv, ns, hB, hn, hR.below hb2⟩⟩
theorem binding_und {B : Nat} {S : RS} {w w1 : World} {p : Spot} {l : List RTok} {G : Nat → List PNode → Prop} {G' : Nat → Nat → List PNode → Prop} (hf : S.f = false) (hd : S.d = 0) (hl : LeftR S l) (h : Und B S w w1 p l G) (b0 : Nat)
    (H : ∀ j ns, G j ns → j ≤ l.length ∧ ns.length ≤ S.ns.length + j ∧ (∀ t rest, GotO 0 (l.drop j) t rest → stops 1 rest → G' (ns.length + t.num) (j + t.toks.length) (ns ++ t.flat ns.length)) ∧ (∀ i, BadV 0 (l.drop j) i → BadS p l (j + i))) :
    Calls Tryz.prog 139 #[.pointer (some ⟨B, 0, none⟩), .int .i64 1] w1 fun e w2 => (∃ v : Int, e = .returned (.int .i64 v)) ∧ Und B S w w2 p l (fun j ns => G' ns.length j ns) ∧ KeepN B w1 w2 := by
  rcases h.st with ⟨j, nv, ns, hG, hR⟩ | ⟨j, nv, ns, hB, hn, hR⟩
  · obtain ⟨h1, h2, h3, h4⟩ := H j ns hG
    have hLr := hl.drop h1 ({ S with k := S.k + j, nv := nv, ns := ns } : RS) rfl rfl
    refine ((reads_all (l.drop j).length).2 B _ w1 (l.drop j) 1 (by omega) (by omega) hR hf hLr (Nat.le_refl _)).mono ?_
    rintro e w2 hout
    refine ⟨hout.val, ?_, hout.1⟩
    obtain ⟨hK2, ⟨t, rest, nv2, hG2, ⟨_, hs⟩, hR2, _⟩ | ⟨i, nv2, ns2, x, hb, hn2, hR2, _⟩⟩ := hout
    · refine ⟨h.kp.trans hK2, .inl ⟨j + t.toks.length, nv2, _, ?_, rd_cast hR2 (by simp only; omega) rfl⟩⟩
      have hG2' : GotO 0 (l.drop j) t rest := by rw [← hd]; exact hG2
      have := h3 t rest hG2' hs
      have hlen : (ns ++ t.flat ns.length).length = ns.length + t.num := by rw [List.length_append, t.flat_len hG2.wf]
      rw [hlen]
      exact this
    · have hb' : BadV 0 (l.drop j) i := by rw [← hd]; exact hb
      have hn2' : ns2.length ≤ ns.length + i := hn2
      exact ⟨h.kp.trans hK2, .inr ⟨j + i, nv2, ns2, h4 i hb', by omega, rd_cast hR2 (by simp only; omega) rfl⟩⟩
  · refine (binding_failed hR rfl 1).mono ?_
    rintro e w2 ⟨rfl, hb2⟩
    exact ⟨⟨0, rfl⟩, ⟨h.kp.trans (KeepN.of hb2), .inr ⟨j, nv, ns, hB, hn, hR.below hb2⟩⟩, KeepN.of hb2⟩
end Go.Proofs.YtjjbmbjmdgoofaaGreatDoor
namespace Go.Proofs.YtjjbmbjmdgoofaaGreatDoor
open Go.RowKit Go.Deep
theorem Und.nodes {B : Nat} {S : RS} {w wr : World} {p : Spot} {l : List RTok} {G : Nat → List PNode → Prop} (h : Und B S w wr p l G) : ∃ N a c, wr.cell? ⟨B, 4, none⟩ = some (.slice a N c) ∧ N ≤ 401 ∧ Und B S w wr p l (fun j ns => G j ns ∧ ns.length = N) := by
  have key : ∀ S' : RS, RdAt wr B S' → ∃ a c, wr.cell? ⟨B, 4, none⟩ = some (.slice a S'.ns.length c) ∧ S'.ns.length ≤ 401 := by
    intro S' hR
    have c4 := hR.blk.cell 4
    simp only [List.getElem?_toArray, List.getElem?_cons_zero, List.getElem?_cons_succ] at c4
    have h1 := hR.nk
    have h2 := hR.kt
    have h3 := hR.tl
    obtain ⟨a, c, e⟩ := (reads_of_own hR.ond).shape
    exact ⟨a, c, by rw [c4, e], by omega⟩
  rcases h.st with ⟨j, nv, ns, hG, hR⟩ | ⟨j, nv, ns, hB, hn, hR⟩
  · obtain ⟨a, c, h1, h2⟩ := key _ hR
    exact ⟨ns.length, a, c, h1, h2, h.kp, .inl ⟨j, nv, ns, ⟨hG, rfl⟩, hR⟩⟩
  · obtain ⟨a, c, h1, h2⟩ := key _ hR
    exact ⟨ns.length, a, c, h1, h2, h.kp, .inr ⟨j, nv, ns, hB, hn, hR⟩⟩
theorem firstAt_head {d j : Nat} {l rest : List RTok} {t : Tr} (h : GotO d (l.drop j) t rest) : ∃ a, l[j]? = some a ∧ firstAt t = a.at' := by
  have hp := t.toks_pos
  have h0 := congrArg (fun x => x[0]?) h.eq
  simp only [List.getElem?_drop, Nat.add_zero] at h0
  rw [List.getElem?_append_left (by omega)] at h0
  refine ⟨t.toks[0]'hp, h0.trans (List.getElem?_eq_getElem hp), ?_⟩
  unfold firstAt
  rw [List.getElem?_eq_getElem hp]
  rfl
theorem KeepN.setNew {B : Nat} {w w' : World} (h : KeepN B w w') {b i : Nat} {v : Value} (hb : w.heap.size ≤ b) : KeepN B w (w'.setCell ⟨b, i, none⟩ v) := by
  have g := (Below.refl b w').setCell (p := ⟨b, i, none⟩) (Nat.le_refl _) v
  refine ⟨g.os.trans h.os, g.tape.trans h.tape, g.output.trans h.output, Nat.le_trans h.size g.size, fun b' o h1 h2 h3 => ?_⟩
  have hlt := (Array.getElem?_eq_some_iff.1 h1).1
  rw [Below.heap_setCell _ _ _ _ (by simp only; omega)]
  exact h.block b' o h1 h2 h3
theorem own_set2 {w : World} {base b i s n : Nat} {e : TypeId} {v u : Value} {xs : List Value} (h : w.ownsRow base e s v n xs) (hne : v.ownBlock ≠ some b) : (w.setCell ⟨b, i, none⟩ u).ownsRow base e s v n xs := by
  refine ⟨h.1, ?_⟩
  rcases h.2 with hn | ⟨g, cap, cur, rfl, hbg, hg, r⟩
  · exact .inl hn
  · refine .inr ⟨g, cap, cur, rfl, hbg, ?_, r⟩
    have hgb : g ≠ b := fun e => hne (by rw [e]; rfl)
    rw [Below.heap_setCell _ _ _ _ hgb]
    exact hg
theorem RdAt.other {w : World} {B : Nat} {S : RS} (h : RdAt w B S) {b i : Nat} {cs : Array Value} {t : TypeId} (hb : Blk w b cs t) (hne : b ≠ B) (ht : t ≠ 114 ∧ t ≠ 162 ∧ t ≠ 120) (hr : S.rv.ownBlock ≠ some b) (v : Value) : RdAt (w.setCell ⟨b, i, none⟩ v) B S :=
  ⟨h.blk.other _ _ (by simp only; exact fun e => hne e.symm), own_set h.otk hb ht.1, own_set h.ond hb ht.2.1, own_set h.olt hb ht.2.2, own_set2 h.orl hr, h.kt, h.tl, h.nk, h.dl⟩
theorem Und.other {B : Nat} {S : RS} {w wr : World} {p : Spot} {l : List RTok} {G : Nat → List PNode → Prop} (h : Und B S w wr p l G) {b i : Nat} {cs : Array Value} {t : TypeId} (hb : Blk wr b cs t) (hne : b ≠ B) (ht : t ≠ 114 ∧ t ≠ 162 ∧ t ≠ 120) (hr : S.rv.ownBlock ≠ some b) (hw : w.heap.size ≤ b) (v : Value) : Und B S w (wr.setCell ⟨b, i, none⟩ v) p l G := by
  refine ⟨h.kp.setNew hw, ?_⟩
  rcases h.st with ⟨j, nv, ns, hG, hR⟩ | ⟨j, nv, ns, hB, hn, hR⟩
  · exact .inl ⟨j, nv, ns, hG, hR.other hb hne ht hr v⟩
  · exact .inr ⟨j, nv, ns, hB, hn, hR.other hb hne ht hr v⟩
set_option maxHeartbeats 1000000 in
set_option maxRecDepth 100000 in
theorem readExpr_und {B : Nat} {S : RS} {w w1 : World} {p : Spot} {l : List RTok} {G : Nat → List PNode → Prop} {G' : PExp → Nat → List PNode → Prop} (hrv : ∀ b, S.rv.ownBlock = some b → b < w.heap.size) (hf : S.f = false) (hd : S.d = 0) (hl : LeftR S l) (h : Und B S w w1 p l G)
    (H : ∀ j ns, G j ns → j ≤ l.length ∧ ns.length ≤ S.ns.length + j ∧ (∀ t rest, GotO 0 (l.drop j) t rest → stops 1 rest → G' (layE ns.length t) (j + t.toks.length) (ns ++ t.flat ns.length)) ∧ (∀ i, BadV 0 (l.drop j) i → BadS p l (j + i))) :
    Calls Tryz.prog 115 #[.pointer (some ⟨B, 0, none⟩)] w1 fun e w2 => ∃ pe, e = .returned (expA pe) ∧ Und B S w w2 p l (G' pe) ∧ KeepN B w1 w2 := by
  have hB := h.lt
  have HRV : Hid (S.rv.ownBlock ≠ some w1.heap.size) := fun e => by have := hrv _ e; have := h.kp.size; omega
  have hws := h.kp.size
  clear hrv
  have HF := hideP hf
  have HD := hideP hd
  have HL := hideP hl
  have HH := hideP H
  have HU := hideP (h.below (new_below w1 (.cells #[.int .i64 0, .int .i64 0, .int .i64 0] 118)))
  have HX := hideP (Blk.new w1 #[.int .i64 0, .int .i64 0, .int .i64 0] 118)
  have HK := hideP (KeepN.of (B := B) (new_below w1 (.cells #[.int .i64 0, .int .i64 0, .int .i64 0] 118)))
  have hne : w1.heap.size ≠ B := by omega
  clear h hf hd hl H
  go_enter Tryz.func115, Tryz.ntmps115
  go_wp2_with (go_at_call 57; refine (current_und HL.out HU.out (fun j ns hG => (HH.out j ns hG).1)).mono ?_; rintro e w2 ⟨tk, rfl, hb2, hu2⟩; unfold tokA; replace HK := hideP (HK.out.trans (KeepN.of hb2)); replace HX := hideP (HX.out.below hb2 HX.out.lt); obtain ⟨N, na, nc, c4, hN, hu4⟩ := hu2.nodes; have HU4 := hideP (hu4.below (new_below w2 (.cells #[.int .i64 (kindP tk.text), .int .i64 tk.at', .string (bsOf tk.text)] 114))); have hB2 := hu2.lt; have HT := hideP (Blk.new w2 #[.int .i64 (kindP tk.text), .int .i64 tk.at', .string (bsOf tk.text)] 114); replace HX := hideP (HX.out.alloc (.cells #[.int .i64 (kindP tk.text), .int .i64 tk.at', .string (bsOf tk.text)] 114)); replace HK := hideP (HK.out.trans (KeepN.of (new_below w2 (.cells #[.int .i64 (kindP tk.text), .int .i64 tk.at', .string (bsOf tk.text)] 114)))); clear hb2 hu2 hu4 HU)
  have hne2 : w2.heap.size ≠ B := by omega
  have HG : Hid (∀ j ns, ((G j ns ∧ ∀ a, l[j]? = some a → a = tk) ∧ ns.length = N) → j ≤ l.length ∧ ns.length ≤ S.ns.length + j ∧ (∀ t rest, GotO 0 (l.drop j) t rest → stops 1 rest → (fun m j ns => G' ⟨tk.at', N, m⟩ j ns) (ns.length + t.num) (j + t.toks.length) (ns ++ t.flat ns.length)) ∧ (∀ i, BadV 0 (l.drop j) i → BadS p l (j + i))) := by
    rintro j ns ⟨⟨hG, ht⟩, hn⟩
    obtain ⟨h1, h2, h3, h4⟩ := HH.out j ns hG
    refine ⟨h1, h2, fun t rest g1 g2 => ?_, h4⟩
    have := h3 t rest g1 g2
    obtain ⟨a, ha, hfa⟩ := firstAt_head g1
    rw [layE, hfa, ht a ha, hn] at this
    simp only [hn]
    exact this
  go_wp2_with (go_at_call 139; refine (binding_und (G' := fun m j ns => G' ⟨tk.at', N, m⟩ j ns) HF.out HD.out HL.out HU4.out 0 HG.out).mono ?_; rintro e w3 ⟨⟨v3, rfl⟩, hu3, hk3⟩; have HT3 := hideP (HT.out.keepN hk3 hne2 (by decide)); have HX3 := hideP (HX.out.keepN hk3 hne (by decide)); have HK3 := hideP (HK.out.trans hk3); have t1 := HT3.out.cell 1; have x0 := HX3.out.cell 0; have x1 := HX3.out.cell 1; have x2 := HX3.out.cell 2; have xf := HX3.out.free; obtain ⟨N2, na2, nc2, c42, hN2, hu5⟩ := hu3.nodes; have HU5 := hideP hu5; have hB3 := hu3.lt; clear hu3 hu5 hk3 c4; simp only [List.getElem?_toArray, List.getElem?_cons_zero, List.getElem?_cons_succ] at t1 x0 x1 x2)
  go_region
  all_goals
    have U1 := HU5.out.other (i := 0) HX3.out hne ⟨by decide, by decide, by decide⟩ HRV.out hws (.int .i64 tk.at')
    have U2 := U1.other (i := 1) (HX3.out.set 0 (.int .i64 tk.at')) hne ⟨by decide, by decide, by decide⟩ HRV.out hws (.int .i64 N)
    have U3 := U2.other (i := 2) ((HX3.out.set 0 (.int .i64 tk.at')).set 1 (.int .i64 N)) hne ⟨by decide, by decide, by decide⟩ HRV.out hws (.int .i64 N2)
    have HE := hideP (U3.below (below_drewN (Below.refl _ _) 1))
    have HE2 := hideP ((((HK3.out.setNew (i := 0) (v := .int .i64 tk.at') (Nat.le_refl _)).setNew (i := 1) (v := .int .i64 N) (Nat.le_refl _)).setNew (i := 2) (v := .int .i64 N2) (Nat.le_refl _)).trans (KeepN.of (below_drewN (Below.refl _ _) 1)))
    clear U1 U2 U3
    have hbx := (((HX3.out.set 0 (.int .i64 tk.at')).set 1 (.int .i64 N)).set 2 (.int .i64 N2)).drew
    have g0 := hbx.cell 0
    have g1 := hbx.cell 1
    have g2 := hbx.cell 2
    clear hbx
    go_wp2
    exact bodyPost_ret (v := .agg #[.int .i64 tk.at', .int .i64 N, .int .i64 N2]) (by simp [results, Tryz.results115, go_sem, g0, g1, g2]) rfl ⟨⟨tk.at', N, N2⟩, rfl, HE.out.mono (fun j ns ⟨h1, h2⟩ => by rw [h2] at h1; exact h1), HE2.out⟩
end Go.Proofs.YtjjbmbjmdgoofaaGreatDoor
