/-
  Checks: each Check of a script is as the document says; the row.
-/
import Derived.Test.YtblfeahabbghmaaGreatDoorMS
import Derived.Test.YtblfeahabbghmaaGreatDoorMR
import Derived.Test.YtblfeahabbghmaaGreatDoorTie
import Derived.Test.YtblfeahabbghmaaGreatDoorCards
import Derived.SevenTiedAt
set_option linter.unusedVariables false
set_option linter.unusedSimpArgs false
namespace Go.Proofs.YtblfeahabbghmaaGreatDoor
open Go.RowKit Go.ChangeShapes Go.WideShapes Go.ChangeAt

set_option maxHeartbeats 1000000 in
theorem alone_check (o : Opr) (hf : o.Fit) (hk : o.kind = 2) (w : World) (hg : GlobT w) :
    Calls Tryz.prog 18 #[oprV o] w fun e w' => Below w.heap.size w w' ∧ e = .returned (.bool true) := by
  have HG : Hid (GlobT w) := hg
  have HF : Hid o.Fit := hf
  unfold oprV
  rw [hk]
  clear hg hk hf
  go_enter Tryz.func18, Tryz.ntmps18
  go_wp2_with (go_at_call 34; refine (checked_any o.s _ (HG.out.below (new_below w _)) HF.out).mono ?_; rintro e w1 ⟨hb1, rfl⟩)
  go_ret
  exact ⟨(new_below w _).trans (hb1.mono (by simp)), rfl⟩
set_option maxHeartbeats 1000000 in
theorem Checks_any (n : Nat) (hn : n ≤ maxLen) (v : Value) (os : Nat → Opr) (w : World) (hs : Script w v n os) (hg : GlobT w) :
    Calls Tryz.prog 4 #[v] w fun e w' => Below w.heap.size w w' ∧ e = .returned (.bool true) := by
  go_enter Tryz.func4, Tryz.ntmps4
  go_wp2_with (go_at_call 10; refine (each_any GlobT (fun _ _ h hb => h.below hb) 2 n hn v os _ hs hg (fun o hf hk w hg => alone_check o hf hk w hg)).mono ?_; rintro e w1 ⟨hb1, rfl⟩)
  go_ret
  exact ⟨hb1, rfl⟩
theorem Tryz.ownC : ownKnob Tryz.prog.godebug = none := by kernel_rfl
theorem Tryz.laidOutC : laidOutB Tryz.prog = true := by kernel_rfl
theorem door_metC (os : Os) (args : Array Value) : laidMetH Tryz.prog laidAllC ((World.doorLaid Tryz.prog 87 os).forCall (fun _ _ => 0) ⟨#[], args, []⟩).memory :=
  laidMetH_of_parts3 (fuel := 8) (laidMet_of_run' 8 (by kernel_rfl) (by kernel_rfl)) (by kernel_rfl) (by kernel_rfl)
set_option maxRecDepth 100000 in
theorem checks_lifted (os : Os) (started : os.Started) (H : Type) (enc : TypeId × Value → H) :
    ReturnsInHanded {} Tryz.checked os 4 .any (fun w args => (Rows.checksSpec.pre enc Tryz.prog Tryz.f4 [] false w args ∧ laidMetH Tryz.prog laidAllC w) ∧ sizedMet enc Tryz.prog Tryz.f4 (OpenSpec.ofChange Rows.checksSpec) false w args)
      (Rows.checksSpec.post enc Tryz.prog Tryz.f4 false true false false) := by
  refine returnsInHanded_of_change_and (C := Tryz.checked) (X := fun w _ => laidMetH Tryz.prog laidAllC w) (fun _ _ _ hh h => h.of_heap hh) Tryz.ownC started (by kernel_rfl) Tryz.func4
    (ChangeSpec.witness_shaped (enc := enc) (C := Tryz.checked) (os := os) (X := fun w _ => laidMetH Tryz.prog laidAllC w) false (World.doorLaid Tryz.prog 87 os) #[.slice none 0 0] 8 rfl (World.shaped_of_RefB (by kernel_rfl) (by kernel_rfl)) (by kernel_rfl) (by kernel_rfl) (by kernel_rfl) (door_metC os _)) ?_
  intro W base args ds gs before hval0 hW _ _ hL _
  have hval : ∀ (j : Nat) t v, Tryz.f4.params[j]? = some t → args[j]? = some v → Value.okWide Tryz.prog W .any base t v := hval0
  have hW' := hW
  have hlt := hW.lt
  obtain ⟨p, q, hA0, hV, rfl, hfz, hnd⟩ := hW
  have hA : DataW.TrodAll enc Tryz.prog W 0 (fun _ => true) true Tryz.f4.params.toList args.toList ds p := hA0
  rw [Tryz.params4] at hA hval
  obtain ⟨v0, d0, rfl, rfl, h0⟩ := trodAll_one hA
  obtain ⟨rfl, rfl⟩ := trodVars_none hV
  simp only [List.append_nil] at hW' hlt
  obtain ⟨n, scr, hn, hs⟩ := script_of (hval 0 22 v0 rfl rfl) h0
  refine (Checks_any n hn v0 scr W hs (globT_of_laid hL)).mono fun e W' ⟨hb, he⟩ => ?_
  subst he
  exact ⟨_, rfl, ⟨_, _, _, [], p, [], hW', trodAll_mk1 (shut_bool Tryz.underlying4 _), trodAll_mk1 (Below.trod Tryz.laidOutC (by kernel_rfl) (of_decide_eq_true (by kernel_rfl)) h0 hb hlt), rfl, hb.frame _, fun h => by cases h⟩⟩
theorem checks_holds : Rows.ChecksSaid :=
  OpenClaim.holds_of_wide 4 Tryz.f4 rfl rfl rfl rfl rfl rfl rfl ⟨rfl, rfl, rfl, rfl, rfl⟩ rfl rfl rfl rfl rfl (by kernel_rfl) Tryz.func4 (by kernel_rfl)
    (of_decide_eq_true (by kernel_rfl)) (by unfold Func.isWrapper; first | (rw [if_pos (by decide +kernel)]; kernel_rfl) | (rw [if_neg (by decide +kernel)]; exact ⟨rfl, rfl⟩))
    (fun os started H enc _ => checks_lifted os started H enc)
end Go.Proofs.YtblfeahabbghmaaGreatDoor
