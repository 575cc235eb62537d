/-
  Part 49.
-/
import Derived.Test.YtfkeddkfegaeiaaGreatDoorMRgB
import Derived.Test.YtfkeddkfegaeiaaGreatDoorJ31
import Derived.Test.YtfkeddkfegaeiaaGreatDoorMTlf
import Derived.Test.YtfkeddkfegaeiaaGreatDoorTie
import Derived.Test.YtfkeddkfegaeiaaGreatDoorCards
import Derived.SevenTiedAt
import Derived.Test.YtfkeddkfegaeiaaGreatDoorJ32
import Derived.ChangeMaps5
namespace Go.Proofs.YtfkeddkfegaeiaaGreatDoor
open Go.ChangeShapes Go.WideShapes Go.ChangeAt Go.RowKit Go.ChangeMaps

/-- The door's own heap meets the condition. -/
theorem tells_door (os : Os) (args : Array Value) : laidMetH Tryz.prog Rows.tellsRow.laid ((World.doorLaid Tryz.prog 252 os).forCall (fun _ _ => 0) ⟨#[], args, []⟩).memory :=
  laidMetH_of_parts3 (fuel := 8) (laidMet_of_run' 8 (by kernel_rfl) (by kernel_rfl)) (by kernel_rfl) (by kernel_rfl)

theorem env_of_tells {W : World} (h : laidMet Tryz.prog Rows.tellsRow.laid W) : ∃ a : Nat → Addr, EnvX a W.heap.size W := by
  obtain ⟨ps, hv, _, hrows⟩ := h
  obtain ⟨q1, h1, m1⟩ := laid_skip hv
  obtain ⟨q2, h2, m2⟩ := laid_skip h1
  obtain ⟨q3, h3, m3⟩ := laid_skip h2
  exact env_of_sents h3 (fun b off hm => hrows b off (m1 _ (m2 _ (m3 _ hm))))

set_option maxRecDepth 100000 in
theorem tells_lifted (os : Os) (started : os.Started) (H : Type) (enc : TypeId × Value → H) :
    ReturnsInHanded {} Tryz.checked os 3 .any (fun w args => (Rows.tellsSpec.pre enc Tryz.prog Tryz.f3 [] false w args ∧ laidMetH Tryz.prog Rows.tellsRow.laid w) ∧ sizedMet enc Tryz.prog Tryz.f3 (OpenSpec.ofChange Rows.tellsSpec) false w args)
      (Rows.tellsSpec.post enc Tryz.prog Tryz.f3 false true false false) := by
  refine returnsInHanded_of_change_and (C := Tryz.checked) (X := fun w _ => laidMetH Tryz.prog Rows.tellsRow.laid w) (fun _ _ _ hh h => h.of_heap hh) own started (by kernel_rfl) Tryz.func3
    (ChangeSpec.witness_shaped (enc := enc) (C := Tryz.checked) (os := os) (X := fun w _ => laidMetH Tryz.prog Rows.tellsRow.laid w) false (World.doorLaid Tryz.prog 252 os) #[.string ⟨#[]⟩] 8 rfl (World.shaped_of_RefB (by kernel_rfl) (by kernel_rfl)) (by kernel_rfl) (by kernel_rfl) (by kernel_rfl) (tells_door os _)) ?_
  intro W base args ds gs before hval0 hW _ _ hL _
  have hW' := hW
  obtain ⟨p, q, hA0, hV, rfl, hfz, hnd⟩ := hW
  have hA : DataW.TrodAll enc Tryz.prog W 0 (fun _ => true) true Tryz.f3.params.toList args.toList ds p := hA0
  rw [Tryz.params3] at hA hval0
  obtain ⟨v0, d0, rfl, rfl, h0⟩ := trodAll_one hA
  obtain ⟨rfl, rfl⟩ := trodVars_none hV
  obtain ⟨s, rfl, rfl, rfl, hs⟩ := open_string Tryz.underlying9 (hval0 0 9 v0 rfl rfl) h0
  rw [MakeChecks.laidMetH_plain _ _ _ (by kernel_rfl)] at hL
  obtain ⟨a, hS⟩ := env_of_tells hL
  clear hA0 hval0 hL hA h0
  simp only [List.append_nil] at hW'
  refine (tells_any s a W.heap.size W hS).mono fun e W' ⟨he, hw⟩ => ?_
  subst he
  have e1 : Rows.tellsSpec.fn H ([.lit (.string s.data.toList)] ++ []) = { results := [.lit (.bool true)], args := [.lit (.string s.data.toList)] } := rfl
  refine ⟨_, rfl, _, _, _, [], [], [], hW', ?_, ?_, ?_, hw.frame _, fun h => by cases h⟩
  · rw [e1]; exact trodAll_mk1 (shut_bool Tryz.underlying4 true)
  · rw [e1]; exact trodAll_mk1 (shut_string Tryz.underlying9 hs)
  · rw [e1]; rfl

theorem tells_holds : Rows.TellsSaid :=
  OpenClaim.holds_of_wide 3 Tryz.f3 rfl rfl rfl rfl rfl rfl rfl ⟨rfl, rfl, rfl, rfl, rfl⟩ rfl rfl rfl rfl rfl (by kernel_rfl) Tryz.func3 tells_closed
    (of_decide_eq_true (by kernel_rfl)) (by unfold Func.isWrapper; rw [if_neg (of_decide_eq_false (by kernel_rfl))]; exact ⟨rfl, rfl⟩)
    (fun os started H enc _ => tells_lifted os started H enc)

theorem tells_card : Rows.TellsCardSaid :=
  card_goes _ _ _
    tells_holds (by kernel_rfl) tells_row_tie rfl ⟨rfl, rfl⟩ (by kernel_rfl)
    (fun f fn hf hfn => by
      obtain rfl : f = 3 := Option.some.inj ((show Tryz.prog.funcNamed "quarry/quarrylaw.Tells" = some 3 by kernel_rfl).symm.trans hf) |>.symm
      obtain rfl : fn = Tryz.f3 := (Option.some.inj (Tryz.func3.symm.trans hfn)).symm
      exact ⟨by kernel_rfl, fun j t ht => by
        rw [Tryz.params3] at ht
        obtain rfl : t = 9 := by simpa using Array.mem_of_getElem? ht
        exact (show Tryz.prog.wantsStandIn 9 = false by kernel_rfl)⟩)
    (by kernel_rfl)
#print axioms tells_card
end Go.Proofs.YtfkeddkfegaeiaaGreatDoor
