/-
  For every raw bytes, every three numbers and every bytes for a bin, Images answers true: an image that is written out of the bytes, operation by operation, is one, and does what its operations do, step by step; with less height, without its last operation, with one behind that is never reached, or with another beginning it is none; and the arguments read afterwards as they read before. No condition but what the row itself says (the three tables of package program hold what the program's text lays).
  For every raw bytes, every three numbers and every bytes for a bin, Images answers true: an image that is written out of the bytes, operation by operation, is one, and does what its operations do, step by step; with less height, without its last operation, with one behind that is never reached, or with another beginning it is none; and the arguments read afterwards as they read before. Its condition: the listed package-level variables hold what the program's text lays, which the card ties to that text.
-/
import Derived.Test.YtbdjcffmpbjjlaaDoorMF
import Derived.Test.YtbdjcffmpbjjlaaDoorMC
import Derived.Test.YtbdjcffmpbjjlaaDoorTie
import Derived.Test.YtbdjcffmpbjjlaaDoorCards
import Derived.SevenTiedAt
set_option linter.unusedVariables false
set_option linter.unusedSimpArgs false
namespace Go.Proofs.YtbdjcffmpbjjlaaDoor
open Go.RowKit Go.ChangeShapes Go.WideShapes Go.ChangeAt

set_option maxRecDepth 100000 in
theorem images_lifted (os : Os) (started : os.Started) (H : Type) (enc : TypeId × Value → H) :
    ReturnsInHanded {} Tryd.checked os 3 .any (fun w args => (Rows.imagesSpec.pre enc Tryd.prog Tryd.f3 [] false w args ∧ laidMetH Tryd.prog laidAll w) ∧ sizedMet enc Tryd.prog Tryd.f3 (OpenSpec.ofChange Rows.imagesSpec) false w args)
      (Rows.imagesSpec.post enc Tryd.prog Tryd.f3 false true false false) := by
  refine returnsInHanded_of_change_and (C := Tryd.checked) (X := fun w _ => laidMetH Tryd.prog laidAll w) (fun _ _ _ hh h => h.of_heap hh) Tryd.own started (by kernel_rfl) Tryd.func3
    (ChangeSpec.witness_shaped (enc := enc) (C := Tryd.checked) (os := os) (X := fun w _ => laidMetH Tryd.prog laidAll w) false (World.doorLaid Tryd.prog 24 os) #[.string ⟨#[]⟩, .int .i64 0, .int .i64 0, .int .i64 0, .string ⟨#[]⟩] 8 rfl (World.shaped_of_RefB (by kernel_rfl) (by kernel_rfl)) (by kernel_rfl) (by kernel_rfl) (by kernel_rfl) (door_met os _)) ?_
  intro W base args ds gs before hval0 hW _ _ hL _
  have hval : ∀ (j : Nat) t v, Tryd.f3.params[j]? = some t → args[j]? = some v → Value.okWide Tryd.prog W .any base t v := hval0
  have hW' := hW
  have hlt := hW.lt
  obtain ⟨p, q, hA0, hV, rfl, hfz, hnd⟩ := hW
  have hA : DataW.TrodAll enc Tryd.prog W 0 (fun _ => true) true Tryd.f3.params.toList args.toList ds p := hA0
  rw [Tryd.params3] at hA hval
  obtain ⟨v1, v2, v3, v4, v5, d1, d2, d3, d4, d5, p1, p2, p3, p4, p5, rfl, rfl, rfl, h1, h2, h3, h4, h5⟩ := trodAll_five hA
  obtain ⟨rfl, rfl⟩ := trodVars_none hV
  simp only [List.append_nil] at hW' hlt
  obtain ⟨s, rfl, hs⟩ := str_arg Tryd.underlying9 (hval 0 9 v1 rfl rfl) h1
  obtain ⟨a, rfl, ha⟩ := int_arg Tryd.underlying3 (hval 1 3 v2 rfl rfl) h2
  obtain ⟨b, rfl, hb⟩ := int_arg Tryd.underlying3 (hval 2 3 v3 rfl rfl) h3
  obtain ⟨c, rfl, hc⟩ := int_arg Tryd.underlying3 (hval 3 3 v4 rfl rfl) h4
  obtain ⟨t, rfl, ht⟩ := str_arg Tryd.underlying9 (hval 4 9 v5 rfl rfl) h5
  refine (Images_any s a b c t ha hb hc hs ht W (glob_of_laid hL)).mono fun e W' ⟨hbl, he⟩ => ?_
  subst he
  exact ⟨_, rfl, ⟨_, _, _, [], _, [], hW', trodAll_mk1 (shut_bool Tryd.underlying4 _), trodAll_cons_mk (Below.trod Tryd.laidOut (by kernel_rfl) (of_decide_eq_true (by kernel_rfl)) h1 hbl (fun x hx => hlt x (by simp [hx]))) (trodAll_cons_mk (Below.trod Tryd.laidOut (by kernel_rfl) (of_decide_eq_true (by kernel_rfl)) h2 hbl (fun x hx => hlt x (by simp [hx]))) (trodAll_cons_mk (Below.trod Tryd.laidOut (by kernel_rfl) (of_decide_eq_true (by kernel_rfl)) h3 hbl (fun x hx => hlt x (by simp [hx]))) (trodAll_cons_mk (Below.trod Tryd.laidOut (by kernel_rfl) (of_decide_eq_true (by kernel_rfl)) h4 hbl (fun x hx => hlt x (by simp [hx]))) (trodAll_mk1 (Below.trod Tryd.laidOut (by kernel_rfl) (of_decide_eq_true (by kernel_rfl)) h5 hbl (fun x hx => hlt x (by simp [hx]))))))), rfl, hbl.frame _, fun h => by cases h⟩⟩
theorem images_holds : Rows.ImagesSaid :=
  OpenClaim.holds_of_wide 3 Tryd.f3 rfl rfl rfl rfl rfl rfl rfl ⟨rfl, rfl, rfl, rfl, rfl⟩ rfl rfl rfl rfl rfl (by kernel_rfl) Tryd.func3 (by kernel_rfl)
    (of_decide_eq_true (by kernel_rfl)) (by unfold Func.isWrapper; first | (rw [if_pos (by decide +kernel)]; kernel_rfl) | (rw [if_neg (by decide +kernel)]; exact ⟨rfl, rfl⟩))
    (fun os started H enc _ => images_lifted os started H enc)
end Go.Proofs.YtbdjcffmpbjjlaaDoor

set_option linter.unusedVariables false
set_option linter.unusedSimpArgs false
namespace Go.Proofs.YtbdjcffmpbjjlaaDoor
open Go

theorem images_card : Rows.ImagesCardSaid :=
  Claim7.holds_tied_plain_at .later [] Rows.imagesCard.laidKinds true Rows.imagesCard.stood.harness false
    images_holds (fun _ h => by cases h) (by kernel_rfl) (fun _ h => by cases h) images_row_tie rfl ⟨rfl, rfl⟩ (by kernel_rfl) rfl
    (fun f fn hf hfn => by
      obtain rfl : f = 3 := Option.some.inj ((show Tryd.prog.funcNamed Rows.imagesRow.func = some 3 by kernel_rfl).symm.trans hf) |>.symm
      obtain rfl : fn = Tryd.f3 := (Option.some.inj (Tryd.func3.symm.trans hfn)).symm
      exact ⟨by kernel_rfl, fun j t ht => by
        rw [Tryd.params3] at ht
        have hm : t ∈ [9, 3, 3, 3, 9] := by simpa using Array.mem_of_getElem? ht
        have hall : ([9, 3, 3, 3, 9].all fun u => !Tryd.prog.wantsStandIn u) = true := by kernel_rfl
        exact (show Tryd.prog.wantsStandIn t = false by simpa using List.all_eq_true.1 hall t hm)⟩)
    (by kernel_rfl)
#print axioms images_card
end Go.Proofs.YtbdjcffmpbjjlaaDoor
