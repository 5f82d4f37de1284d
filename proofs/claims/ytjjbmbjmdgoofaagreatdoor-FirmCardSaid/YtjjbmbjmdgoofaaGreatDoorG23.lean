/-
  What the program's Compile makes of a policy that was read, as it makes it: facts, codes, heights, rules, the image; plain.
-/
import Derived.Test.YtjjbmbjmdgoofaaGreatDoorG05
import Derived.Test.YtjjbmbjmdgoofaaGreatDoorG22
import Derived.Test.YtjjbmbjmdgoofaaGreatDoorG19
import Derived.Test.YtjjbmbjmdgoofaaGreatDoorG20
import Derived.Test.YtjjbmbjmdgoofaaGreatDoorG01
import Derived.Test.YtjjbmbjmdgoofaaGreatDoorProg
import Derived.Deep.Light
import Derived.Laws.BytesString
import Derived.Laws.Cells
set_option linter.unusedVariables false
set_option linter.unusedSimpArgs false
namespace Go.Proofs.YtjjbmbjmdgoofaaGreatDoor
open Go.RowKit
def opK (k ops : Nat) : Nat :=
  if k = 9 then 3 else if k = 28 then (if ops = 1 then 2 else 5) else if k = 27 then 4 else if k = 29 then 6 else if k = 30 then 7 else if k = 31 then 8 else if k = 25 then 9 else if k = 26 then 10 else if k = 23 then 11 else 12
def isChK (k : Nat) : Bool := decide (k = 7) || decide (k = 8)
def decK (k : Nat) : Int := if k = 8 then 1 else 0
def leaK (k : Nat) : Nat := if k = 8 then 15 else 14
abbrev Fact := Option Int
def atF (fs : List Fact) (i : Int) : Fact := if i < 0 then none else fs.getD i.toNat none
def meantI (ls : List PLet) (t : Txt) : Int := match ls[letIx ls t]? with
  | none => -1
  | some p => (p.val.behind : Int) - 1
def numT (t : Txt) : Int := t.foldl (fun n c => n * 10 + (c.toNat : Int) - 48) 0
def oneF (c : Nat) : Fact → Fact
  | none => none
  | some a => if (oneN c a).2 = 0 then some (oneN c a).1 else none
def twoF (c : Nat) : Fact → Fact → Fact
  | some a, some b => if (joinN c a b).2 = 0 then some (joinN c a b).1 else none
  | _, _ => none
def choiceF (k : Nat) : Fact → Fact → Fact
  | none, _ => none
  | some a, r => if a = decK k then some a else r
def singleF (t : RTok) : Fact :=
  if kindP t.text = 1 then some (numT t.text) else if kindP t.text = 10 then some 1 else if kindP t.text = 11 then some 0 else if kindP t.text = 12 ∨ kindP t.text = 13 ∨ kindP t.text = 14 then some ((kindP t.text : Int) - 12) else none
def factN (ls : List PLet) (fs : List Fact) (n : PNode) : Fact :=
  if n.ops = 1 then oneF (opK (kindP n.tok.text) n.ops) (atF fs n.left)
  else if isChK (kindP n.tok.text) then choiceF (kindP n.tok.text) (atF fs n.left) (atF fs n.right)
  else if n.ops = 2 then twoF (opK (kindP n.tok.text) n.ops) (atF fs n.left) (atF fs n.right)
  else if kindP n.tok.text = 2 then atF fs (meantI ls n.tok.text)
  else singleF n.tok
def factsG (ls : List PLet) : List Fact → List PNode → List Fact
  | fs, [] => fs
  | fs, n :: r => factsG ls (fs ++ [factN ls fs n]) r
def factsP (ls : List PLet) (N : List PNode) : List Fact := factsG ls [] N
theorem factsG_length (ls : List PLet) : ∀ (N : List PNode) (fs : List Fact), (factsG ls fs N).length = fs.length + N.length
  | [], fs => by simp [factsG]
  | n :: r, fs => by rw [factsG, factsG_length ls r]; simp; omega
theorem factsG_append (ls : List PLet) : ∀ (a b : List PNode) (fs : List Fact), factsG ls fs (a ++ b) = factsG ls (factsG ls fs a) b
  | [], b, fs => rfl
  | n :: r, b, fs => by rw [List.cons_append, factsG, factsG, factsG_append ls r]
def opC (k : Nat) (v : Int) : List Nat := k :: bytesN (v % 18446744073709551616).toNat (behindN k)
theorem opC_length (k : Nat) (v : Int) : (opC k v).length = behindN k + 1 := by simp [opC, bytesN_length]
def layH (below h : Nat) : Nat := if h < below + 1 then below + 1 else h
def codeH (fs : List Fact) (ls : List PLet) (N : List PNode) : Nat → Nat → Int → Nat → Nat → List Nat × Nat
  | 0, _, _, _, h => ([], h)
  | f + 1, b, i, below, h =>
    if i < 0 ∨ (b : Int) ≤ i then ([], h) else
    match N[i.toNat]? with
    | none => ([], h)
    | some n =>
      match atF fs i with
      | some v => (opC 0 v, layH below h)
      | none =>
        if n.ops = 1 then ((codeH fs ls N f i.toNat n.left below h).1 ++ opC (opK (kindP n.tok.text) n.ops) 0, (codeH fs ls N f i.toNat n.left below h).2)
        else if isChK (kindP n.tok.text) then
          ((codeH fs ls N f i.toNat n.left below h).1 ++ opC (leaK (kindP n.tok.text)) (((codeH fs ls N f i.toNat n.right below (codeH fs ls N f i.toNat n.left below h).2).1.length + 3 : Nat) : Int) ++ (codeH fs ls N f i.toNat n.right below (codeH fs ls N f i.toNat n.left below h).2).1 ++ opC 13 9 ++ opC 0 (decK (kindP n.tok.text)),
            layH below (codeH fs ls N f i.toNat n.right below (codeH fs ls N f i.toNat n.left below h).2).2)
        else if n.ops = 2 then
          ((codeH fs ls N f i.toNat n.left below h).1 ++ (codeH fs ls N f i.toNat n.right (below + 1) (codeH fs ls N f i.toNat n.left below h).2).1 ++ opC (opK (kindP n.tok.text) n.ops) 0, (codeH fs ls N f i.toNat n.right (below + 1) (codeH fs ls N f i.toNat n.left below h).2).2)
        else if kindP n.tok.text = 2 then codeH fs ls N f i.toNat (meantI ls n.tok.text) below h
        else (opC 1 ((kindP n.tok.text : Int) - 15), layH below h)
def exprH (fs : List Fact) (ls : List PLet) (N : List PNode) (e : PExp) (h : Nat) : List Nat × Nat := codeH fs ls N N.length N.length ((e.behind : Int) - 1) 0 h
def appliesF (fs : List Fact) (r : PRule) : Nat := if r.hw then (match atF fs ((r.when.behind : Int) - 1) with
  | none => 1
  | some v => if v = 0 then 0 else 2) else 2
def actH (fs : List Fact) (ls : List PLet) (N : List PNode) (r : PRule) (h : Nat) : List Nat × Nat :=
  if r.hs then ((exprH fs ls N r.score h).1 ++ opC 16 0, (exprH fs ls N r.score h).2) else (opC 17 0, h)
def guardH (fs : List Fact) (ls : List PLet) (N : List PNode) (r : PRule) (h : Nat) : List Nat × Nat :=
  ((exprH fs ls N r.when h).1 ++ opC 14 ((actH fs ls N r (exprH fs ls N r.when h).2).1.length : Int) ++ (actH fs ls N r (exprH fs ls N r.when h).2).1, (actH fs ls N r (exprH fs ls N r.when h).2).2)
def rulesH (fs : List Fact) (ls : List PLet) (N : List PNode) : List PRule → List Nat → Nat → List Nat × Nat
  | [], c, h => (c ++ opC 17 0, h)
  | r :: rs, c, h => if appliesF fs r = 2 then (c ++ (actH fs ls N r h).1, (actH fs ls N r h).2)
    else if appliesF fs r = 1 then rulesH fs ls N rs (c ++ (guardH fs ls N r h).1) (guardH fs ls N r h).2
    else rulesH fs ls N rs c h
def imageC (N : List PNode) (ls : List PLet) (rs : List PRule) : List Nat := imgC ((rulesH (factsP ls N) ls N rs [] 0).2 % 256) (rulesH (factsP ls N) ls N rs [] 0).1
end Go.Proofs.YtjjbmbjmdgoofaaGreatDoor
namespace Go.Proofs.YtjjbmbjmdgoofaaGreatDoor
open Go.RowKit
theorem RSt.toks_two (s : RSt) : 2 ≤ s.toks.length := by
  have := s.body_pos
  rw [s.toks_length]; omega
end Go.Proofs.YtjjbmbjmdgoofaaGreatDoor
namespace Go.Proofs.YtjjbmbjmdgoofaaGreatDoor
open Go.RowKit
theorem Read_pol (s : ByteArray) (w : World) (hg : GlobT w) (hz : s.size ≤ maxLen) {l : List RTok} (h : tokened s.toList = .fine l) :
    Calls Tryz.prog 32 #[.string s] w fun e w' => Below w.heap.size w w' ∧ ∃ L R na nc la lc ra rc, PolicyOf s.toList L R ∧ e = .returned (.tuple #[.agg #[.slice na (nodesS 0 (L ++ R)).length nc, .slice la (letsS 0 (L ++ R)).length lc, .slice ra (rulesS 0 (L ++ R)).length rc], .int .i64 0, .int .i64 0]) ∧ PolMem w' w.heap.size (.slice na (nodesS 0 (L ++ R)).length nc) (.slice la (letsS 0 (L ++ R)).length lc) (.slice ra (rulesS 0 (L ++ R)).length rc) L R := by
  refine (Read_any s w hg hz).mono ?_
  rintro e w' ⟨hb, ⟨c', p', ht, hc, rfl⟩ | ⟨L, R, nv, lv, rv, hp, rfl, hm⟩⟩
  · rw [h] at ht; cases ht
  · have hpa := PolAt.of hm hp
    obtain ⟨na, nc, rfl⟩ := hpa.n.shape
    obtain ⟨la, lc, rfl⟩ := hpa.l.shape
    obtain ⟨ra, rc, rfl⟩ := hpa.r.shape
    exact ⟨hb, L, R, na, nc, la, lc, ra, rc, hp, rfl, hm⟩
theorem PolMem.set {w : World} {base : Nat} {nv lv rv : Value} {L R : List RSt} (h : PolMem w base nv lv rv L R) (b i : Nat) (hb : b < base) (v : Value) : PolMem (w.setCell ⟨b, i, none⟩ v) base nv lv rv L R :=
  ⟨ownsRow_setCell_below h.ond (a := ⟨b, i, none⟩) hb v, ownsRow_setCell_below h.olt (a := ⟨b, i, none⟩) hb v, ownsRow_setCell_below h.orl (a := ⟨b, i, none⟩) hb v⟩
set_option maxHeartbeats 2000000 in
set_option maxRecDepth 100000 in
theorem readSound_fine (s : ByteArray) (w : World) (hg : GlobT w) (hz : s.size ≤ maxLen) {l : List RTok} (htk : tokened s.toList = .fine l) (herr : ∀ L R, PolicyOf s.toList L R → errsOf (nodesS 0 (L ++ R)) (letsS 0 (L ++ R)) (rulesS 0 (L ++ R)) = (0, 0)) :
    Calls Tryz.prog 34 #[.string s] w fun e w' => Below w.heap.size w w' ∧ ∃ L R na nc la lc ra rc, PolicyOf s.toList L R ∧ e = .returned (.tuple #[.agg #[.slice na (nodesS 0 (L ++ R)).length nc, .slice la (letsS 0 (L ++ R)).length lc, .slice ra (rulesS 0 (L ++ R)).length rc], .int .i64 0, .int .i64 0]) ∧ PolMem w' w.heap.size (.slice na (nodesS 0 (L ++ R)).length nc) (.slice la (letsS 0 (L ++ R)).length lc) (.slice ra (rulesS 0 (L ++ R)).length rc) L R := by
  have hbz := new_below w (.cells #[nilS, nilS, nilS] 77)
  have HG := hideP (hg.below hbz)
  have HZ := hideP (Blk.new w #[nilS, nilS, nilS] 77)
  have HBZ := hideP hbz
  have HSZ := hideP hz
  have HER := hideP herr
  clear hg hbz hz herr
  have HTK : Hid (tokened s.toList = .fine l) := htk
  clear htk
  go_enter Tryz.func34, Tryz.ntmps34
  go_wp2_with (first | (go_at_call 32; refine (Read_pol s _ HG.out HSZ.out HTK.out).mono ?_; rintro e w1 ⟨hb1, L, R, na, nc, la, lc, ra, rc, hp, rfl, hpm⟩; have hpa := PolAt.of hpm hp; have HPM := hideP hpm; clear hpm; have HZ1 := hideP (HZ.out.below hb1 HZ.out.lt); have HB1 := hideP (HBZ.out.trans (hb1.mono HBZ.out.size)); have hz1 := HZ1.out.lt; have HP := hideP hp; have HPA := hideP hpa; clear hb1 hp hpa) | (go_at_call 60; refine (Errors_any _ _ _ _ _ _ _ (HPA.out.below (new_below w1 _)) (fits_of HP.out HPA.out.nb)).mono ?_; rintro e w3 ⟨rfl, hb3⟩; have HPM3 := hideP ((HPM.out.below (new_below w1 (.cells #[.slice na (nodesS 0 (L ++ R)).length nc, .slice la (letsS 0 (L ++ R)).length lc, .slice ra (rulesS 0 (L ++ R)).length rc] 77))).below hb3); obtain ⟨np, hnp⟩ : ∃ np, errsOf (nodesS 0 (L ++ R)) (letsS 0 (L ++ R)) (rulesS 0 (L ++ R)) = np := ⟨_, rfl⟩; obtain ⟨n, p⟩ := np; rw [hnp]; dsimp only; have HNP := hideP hnp; have HZ3 := hideP ((HZ1.out.alloc (.cells #[.slice na (nodesS 0 (L ++ R)).length nc, .slice la (letsS 0 (L ++ R)).length lc, .slice ra (rulesS 0 (L ++ R)).length rc] 77)).below hb3 (HZ1.out.alloc (.cells #[.slice na (nodesS 0 (L ++ R)).length nc, .slice la (letsS 0 (L ++ R)).length lc, .slice ra (rulesS 0 (L ++ R)).length rc] 77)).lt); have HV3 := hideP ((Blk.new w1 #[.slice na (nodesS 0 (L ++ R)).length nc, .slice la (letsS 0 (L ++ R)).length lc, .slice ra (rulesS 0 (L ++ R)).length rc] 77).below hb3 (Blk.new w1 #[.slice na (nodesS 0 (L ++ R)).length nc, .slice la (letsS 0 (L ++ R)).length lc, .slice ra (rulesS 0 (L ++ R)).length rc] 77).lt); have HB3 := hideP ((HB1.out.trans ((new_below w1 (.cells #[.slice na (nodesS 0 (L ++ R)).length nc, .slice la (letsS 0 (L ++ R)).length lc, .slice ra (rulesS 0 (L ++ R)).length rc] 77)).mono HB1.out.size)).trans (hb3.mono (by simp; omega))); have hz3 := HZ3.out.lt; have hv3 := HV3.out.lt; have z0 := HZ3.out.cell 0; have z1 := HZ3.out.cell 1; have z2 := HZ3.out.cell 2; have f0 := HZ3.out.free 0; have f1 := HZ3.out.free 1; have f2 := HZ3.out.free 2; have v0 := HV3.out.cell 0; have v1 := HV3.out.cell 1; have v2 := HV3.out.cell 2; clear hb3 hnp))
  · rename_i hn0
    have := HER.out L R HP.out
    rw [HNP.out] at this
    cases this
    simp at hn0
  · rename_i hn0
    have hn1 : n = 0 := by simpa using hn0
    subst hn1
    have hp0 := errs_zero HNP.out
    subst hp0
    have hfb := ((HZ3.out.set 0 (.slice na (nodesS 0 (L ++ R)).length nc)).set 1 (.slice la (letsS 0 (L ++ R)).length lc)).set 2 (.slice ra (rulesS 0 (L ++ R)).length rc)
    have g0 := hfb.cell 0
    have g1 := hfb.cell 1
    have g2 := hfb.cell 2
    have hbl := three_sets HB3.out (.slice na (nodesS 0 (L ++ R)).length nc) (.slice la (letsS 0 (L ++ R)).length lc) (.slice ra (rulesS 0 (L ++ R)).length rc)
    have hpm := ((HPM3.out.set w.heap.size 0 (by simp) (.slice na (nodesS 0 (L ++ R)).length nc)).set w.heap.size 1 (by simp) (.slice la (letsS 0 (L ++ R)).length lc)).set w.heap.size 2 (by simp) (.slice ra (rulesS 0 (L ++ R)).length rc)
    exact bodyPost_ret (v := .tuple #[.agg #[.slice na (nodesS 0 (L ++ R)).length nc, .slice la (letsS 0 (L ++ R)).length lc, .slice ra (rulesS 0 (L ++ R)).length rc], .int .i64 0, .int .i64 0]) (by simp [results, Tryz.results34, go_sem, g0, g1, g2]) rfl ⟨hbl, L, R, na, nc, la, lc, ra, rc, HP.out, rfl, ⟨own_base hpm.ond (by simp), own_base hpm.olt (by simp), own_base hpm.orl (by simp)⟩⟩
end Go.Proofs.YtjjbmbjmdgoofaaGreatDoor
namespace Go.Proofs.YtjjbmbjmdgoofaaGreatDoor
open Go.RowKit
theorem box3 (w : World) (o : Obj) : Below w.heap.size w (w.alloc o) := (Below.refl _ _).alloc (Nat.le_refl _) _
def itmA (x : Itm) : Value := .agg #[.int .i64 x.size, .int .i64 x.speed, .int .i64 x.need]
def bnA (y : Bn) : Value := .agg #[.int .i64 y.id, .int .i64 y.zone, .int .i64 y.cap, .int .i64 y.used, .int .i64 y.has]
end Go.Proofs.YtjjbmbjmdgoofaaGreatDoor
namespace Go.Proofs.YtjjbmbjmdgoofaaGreatDoor
open Go.RowKit
def btw (n a b : Int) : Bool := decide (a ≤ n) && decide (n ≤ b)
def itmB (x : Itm) : Bool := btw x.size 1 1000 && btw x.speed 0 1000 && btw x.need 0 2
def bnB (y : Bn) : Bool := btw y.id 0 1000 && btw y.zone 0 9 && btw y.cap 1 1000 && btw y.used 0 y.cap && btw y.has 0 2
theorem itmB_iff (x : Itm) : itmB x = true ↔ x.Ok := by unfold itmB btw Itm.Ok; simp [and_assoc]
theorem bnB_iff (y : Bn) : bnB y = true ↔ y.Ok := by unfold bnB btw Bn.Ok; simp [and_assoc]
set_option maxHeartbeats 400000 in
theorem within_any (n a b : Int) (w : World) :
    Calls Tryz.prog 64 #[.int .i64 n, .int .i64 a, .int .i64 b] w fun e w' => e = .returned (.bool (btw n a b)) ∧ w' = w := by
  unfold btw
  by_cases h : a ≤ n
  all_goals
    go_enter Tryz.func64, Tryz.ntmps64
    go_wp2
    all_goals go_ret
    all_goals exact ⟨ret_bool (by go_light; first | (simp [h]; done) | (simp; omega)), rfl⟩
set_option maxHeartbeats 400000 in
theorem isClass_any (n : Int) (w : World) :
    Calls Tryz.prog 65 #[.int .i64 n] w fun e w' => e = .returned (.bool (btw n 0 2)) ∧ w' = w := by
  go_enter Tryz.func65, Tryz.ntmps65
  go_wp2_with (go_at_call 64; refine (within_any _ _ _ _).mono ?_; rintro e w' ⟨rfl, rfl⟩)
  go_ret
  exact ⟨rfl, rfl⟩
set_option maxHeartbeats 1000000 in
theorem pIsItem_any (x : Itm) (w : World) :
    Calls Tryz.prog 36 #[itmA x] w fun e w' => e = .returned (.bool (itmB x)) ∧ Below w.heap.size w w' := by
  unfold itmA itmB
  cases h1 : btw x.size 1 1000 <;> cases h2 : btw x.speed 0 1000
  all_goals
    go_enter Tryz.func36, Tryz.ntmps36
    go_wp2_with (first | (go_at_call 64; refine (within_any _ _ _ _).mono ?_; rintro e w' ⟨rfl, rfl⟩) | (go_at_call 65; refine (isClass_any _ _).mono ?_; rintro e w' ⟨rfl, rfl⟩))
    go_ret
    exact ⟨ret_bool (by simp), box3 _ _⟩
set_option maxHeartbeats 1000000 in
theorem pIsBin_any (y : Bn) (w : World) :
    Calls Tryz.prog 72 #[bnA y] w fun e w' => e = .returned (.bool (bnB y)) ∧ Below w.heap.size w w' := by
  unfold bnA bnB
  cases h1 : btw y.id 0 1000 <;> cases h2 : btw y.zone 0 9 <;> cases h3 : btw y.cap 1 1000 <;> cases h4 : btw y.used 0 y.cap
  all_goals
    go_enter Tryz.func72, Tryz.ntmps72
    go_wp2_with (first | (go_at_call 64; refine (within_any _ _ _ _).mono ?_; rintro e w' ⟨rfl, rfl⟩) | (go_at_call 65; refine (isClass_any _ _).mono ?_; rintro e w' ⟨rfl, rfl⟩))
    go_ret
    exact ⟨ret_bool (by simp), box3 _ _⟩
end Go.Proofs.YtjjbmbjmdgoofaaGreatDoor
namespace Go.Proofs.YtjjbmbjmdgoofaaGreatDoor
open Go.RowKit
set_option maxHeartbeats 400000 in
theorem pick_any (c n : Int) (hc : In64 c) (hn : 0 < n ∧ n ≤ 2000) (w : World) :
    Calls Tryz.prog 9 #[.int .i64 c, .int .i64 n] w fun e w' => (∃ r : Int, 0 ≤ r ∧ r < n ∧ e = .returned (.int .i64 r)) ∧ w' = w := by
  obtain ⟨h1, h2⟩ := hc
  obtain ⟨h3, h4⟩ := hn
  have en : (n == 0) = false := by simp; omega
  by_cases h : c < 0
  · have hm := Int.emod_nonneg (-(c + 1)) (b := n) (by omega)
    have hl := Int.emod_lt_of_pos (-(c + 1)) h3
    have ht : (-(c + 1)).tmod n = (-(c + 1)) % n := Int.tmod_eq_emod_of_nonneg (by omega)
    have HM := Hid.mk2 hm
    have HL := Hid.mk2 hl
    have HT := Hid.mk2 ht
    clear hm hl ht
    go_enter Tryz.func9, Tryz.ntmps9
    go_wp2
    all_goals go_ret
    have e1 : -((c + 1).tmod n) = (-(c + 1)) % n := by rw [← HT.out, Int.neg_tmod]
    exact ⟨⟨-((c + 1).tmod n), by rw [e1]; exact HM.out, by rw [e1]; exact HL.out, rfl⟩, rfl⟩
  · have hm := Int.emod_nonneg c (b := n) (by omega)
    have hl := Int.emod_lt_of_pos c h3
    have HM := Hid.mk2 hm
    have HL := Hid.mk2 hl
    clear hm hl
    go_enter Tryz.func9, Tryz.ntmps9
    go_wp2
    all_goals go_ret
    exact ⟨⟨c % n, HM.out, HL.out, rfl⟩, rfl⟩
theorem Blk.drewN {w : World} {b : Nat} {cs : Array Value} {t : TypeId} (h : Blk w b cs t) (n : Nat) : Blk (w.drewN n) b cs t := h
structure But (fb : Nat) (w w' : World) : Prop where
  os : w'.os = w.os
  tape : w'.tape = w.tape
  output : w'.output = w.output
  size : w.heap.size ≤ w'.heap.size
  block : ∀ k, k ≠ fb → k < w.heap.size → w'.heap[k]? = w.heap[k]?
theorem But.refl (fb : Nat) (w : World) : But fb w w := ⟨rfl, rfl, rfl, Nat.le_refl _, fun _ _ _ => rfl⟩
theorem But.trans {fb : Nat} {w w1 w2 : World} (h : But fb w w1) (g : But fb w1 w2) : But fb w w2 :=
  ⟨g.os.trans h.os, g.tape.trans h.tape, g.output.trans h.output, Nat.le_trans h.size g.size, fun k h1 h2 => (g.block k h1 (Nat.lt_of_lt_of_le h2 h.size)).trans (h.block k h1 h2)⟩
theorem But.of {fb : Nat} {w w' : World} (h : Below w.heap.size w w') : But fb w w' := ⟨h.os, h.tape, h.output, h.size, fun k _ h2 => h.block k h2⟩
theorem But.below {fb B : Nat} {w w' : World} (h : But fb w w') (h1 : B ≤ fb) (h2 : B ≤ w.heap.size) : Below B w w' := ⟨h.os, h.tape, h.output, h.size, fun k hk => h.block k (by omega) (by omega)⟩
theorem Blk.but {w w' : World} {b fb : Nat} {cs : Array Value} {t : TypeId} (h : Blk w b cs t) (hb : But fb w w') (hne : b ≠ fb) : Blk w' b cs t := (hb.block b hne h.lt).trans h
theorem But.set {w : World} (fb i : Nat) (v : Value) (h : fb < w.heap.size) : But fb w (w.setCell ⟨fb, i, none⟩ v) := by
  have g := (Below.refl fb w).setCell (p := ⟨fb, i, none⟩) (Nat.le_refl _) v
  exact ⟨g.os, g.tape, g.output, g.size, fun k h1 _ => Below.heap_setCell _ _ _ _ h1⟩
structure FeedAt (w : World) (fb : Nat) : Prop where
  ok : ∃ (s : ByteArray) (k : Nat), Blk w fb #[.string s, .int .i64 k] 35 ∧ k ≤ s.size ∧ s.size ≤ maxLen
theorem FeedAt.below {w w' : World} {fb : Nat} (h : FeedAt w fb) (hb : Below w.heap.size w w') : FeedAt w' fb := by
  obtain ⟨s, k, h1, h2⟩ := h.ok
  exact ⟨s, k, h1.below hb h1.lt, h2⟩
set_option maxHeartbeats 1000000 in
theorem next_any (n : Int) (hn : 0 < n ∧ n ≤ 2000) (fb : Nat) (w : World) (h : FeedAt w fb) :
    Calls Tryz.prog 29 #[.pointer (some ⟨fb, 0, none⟩), .int .i64 n] w fun e w' => (∃ r : Int, 0 ≤ r ∧ r < n ∧ e = .returned (.int .i64 r)) ∧ FeedAt w' fb ∧ But fb w w' := by
  obtain ⟨s, k, hb, hk, hs⟩ := h.ok
  have HB := Hid.mk2 hb
  have HFd := Hid.mk2 h
  have c0 := hb.cell 0
  have c1 := hb.cell 1
  have f1 := hb.free 1
  have hs' : (s.size : Int) ≤ 9223372036854775807 := by have h := hs; simp [maxLen] at h; omega
  obtain ⟨h3, h4⟩ := hn
  have en : (n == 0) = false := by simp; omega
  have HSm := Hid.mk2 hs
  clear h hb hs
  by_cases hlt : k < s.size
  · have hix := fun wx => run_index_nat (P := Tryz.prog) wx 9 s .i64 (k : Int) k Tryz.underlying9 rfl hlt
    obtain ⟨c, hc⟩ : ∃ c, c = s[k].toNat := ⟨_, rfl⟩
    have hc256 : c < 256 := by rw [hc]; exact UInt8.toNat_lt _
    rw [← hc] at hix
    have hm := Int.emod_nonneg (c : Int) (b := n) (by omega)
    have hl := Int.emod_lt_of_pos (c : Int) h3
    have HM := Hid.mk2 hm
    have HL := Hid.mk2 hl
    have dk : decide ((s.size : Int) ≤ (k : Int)) = false := by simp; omega
    clear hc hm hl
    go_enter Tryz.func29, Tryz.ntmps29
    go_wp2
    go_quiet (fail)
    go_wp2
    go_quiet (fail)
    go_wp2
    go_ret
    exact ⟨⟨_, HM.out, HL.out, rfl⟩, ⟨s, k + 1, (HB.out.drewN _).set 1 _, by omega, HSm.out⟩, (But.of (below_drewN (Below.refl _ w) _)).trans (But.set fb 1 _ HB.out.lt)⟩
  · have dk : decide ((s.size : Int) ≤ (k : Int)) = true := by simp; omega
    go_enter Tryz.func29, Tryz.ntmps29
    go_wp2
    go_quiet (fail)
    go_wp2
    go_ret
    exact ⟨⟨0, Int.le_refl _, h3, rfl⟩, ⟨s, k, HB.out.drewN _, hk, HSm.out⟩, But.of (below_drewN (Below.refl _ w) _)⟩
end Go.Proofs.YtjjbmbjmdgoofaaGreatDoor
namespace Go.Proofs.YtjjbmbjmdgoofaaGreatDoor
open Go.RowKit
def bsN (l : List Nat) : ByteArray := ⟨(l.map UInt8.ofNat).toArray⟩
theorem bsN_fold (l : List Nat) : ∀ r : ByteArray, (l.map Int.ofNat).foldl (fun r n => r.push (UInt8.ofNat n.toNat)) r = ⟨r.data ++ (l.map UInt8.ofNat).toArray⟩ := by
  induction l with
  | nil => intro r; simp
  | cons c l ih =>
    intro r
    simp only [List.map_cons, List.foldl_cons]
    rw [ih]
    simp [ByteArray.push]
theorem bsN_append (l m : List Nat) : bsN l ++ bsN m = bsN (l ++ m) := by
  apply ByteArray.ext
  simp [bsN, ByteArray.data_append]
theorem conv_bytes (w : World) (b : Nat) (l : List Nat) (t : TypeId) (hb : Blk w b ((l.map fun n : Nat => Value.int .u8 (n : Int)).toArray) t) :
    (convert 140 9 (.slice (some ⟨b, 0, none⟩) l.length l.length)).run Tryz.prog w = .ok (.string (bsN l)) w := by
  rw [run_convert_bytes_string w 140 9 5 _ _ _ Tryz.underlying140 Tryz.underlying5 Tryz.underlying9]
  rw [run_bytesToString w ⟨b, 0, none⟩ l.length l.length (l.map Int.ofNat) ?_]
  · rw [bsN_fold]
    simp [bsN]
  · have h := run_loadCells_list (P := Tryz.prog) w ⟨b, 0, none⟩ ((l.map Int.ofNat).map (Value.int .u8)) ?_
    · simpa using h
    · intro j v hj
      simp at hj
      obtain ⟨c, hc, rfl⟩ := hj
      have := hb.cell j
      simp [hc] at this
      rw [show (⟨b, 0, none⟩ : Addr).add j = ⟨b, j, none⟩ by unfold Addr.add; split <;> simp_all]
      exact this
set_option maxHeartbeats 1000000 in
theorem op_any (n : Nat) (hn : n < 256) (w : World) :
    Calls Tryz.prog 42 #[.int .i64 n] w fun e w' => e = .returned (.string (bsN [n])) ∧ Below w.heap.size w w' := by
  have hcv := conv_bytes (w.alloc (Obj.cells #[Value.int .u8 n] 5)) w.heap.size [n] 5 (Blk.new w _ _)
  simp only [List.length_cons, List.length_nil, Nat.zero_add] at hcv
  go_enter Tryz.func42, Tryz.ntmps42
  go_wp2
  all_goals go_ret
  exact ⟨rfl, box3 _ _⟩
set_option maxHeartbeats 1000000 in
theorem past_any (n : Nat) (hn : n < 65536) (w : World) :
    Calls Tryz.prog 43 #[.int .i64 n] w fun e w' => e = .returned (.string (bsN [n % 256, n / 256])) ∧ Below w.heap.size w w' := by
  have hcv := conv_bytes (w.alloc (Obj.cells #[Value.int .u8 ((n % 256 : Nat) : Int), Value.int .u8 ((n / 256 : Nat) : Int)] 5)) w.heap.size [n % 256, n / 256] 5 (Blk.new w _ _)
  simp only [List.length_cons, List.length_nil, Nat.zero_add] at hcv
  obtain ⟨lo, hlo⟩ : ∃ lo, lo = n % 256 := ⟨_, rfl⟩
  obtain ⟨hi, hhi⟩ : ∃ hi, hi = n / 256 := ⟨_, rfl⟩
  rw [← hlo, ← hhi] at hcv
  have e1 : (n : Int) % 256 = (lo : Int) := by omega
  have e2 : (n : Int) / 256 = (hi : Int) := by omega
  have e3 : (hi : Int) % 256 = (hi : Int) := by omega
  rw [← hlo, ← hhi]
  clear hlo hhi
  go_enter Tryz.func43, Tryz.ntmps43
  go_wp2
  all_goals go_ret
  exact ⟨rfl, box3 _ _⟩
end Go.Proofs.YtjjbmbjmdgoofaaGreatDoor
