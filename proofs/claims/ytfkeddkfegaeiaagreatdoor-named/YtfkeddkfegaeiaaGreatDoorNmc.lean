/-
  Part 36.
-/
import Derived.Test.YtfkeddkfegaeiaaGreatDoorMNml
import Derived.Test.YtfkeddkfegaeiaaGreatDoorMNmf
import Derived.Test.YtfkeddkfegaeiaaGreatDoorTie
import Derived.Test.YtfkeddkfegaeiaaGreatDoorCards
import Derived.SevenTiedAt
import Derived.Test.YtfkeddkfegaeiaaGreatDoorJ32
import Derived.ChangeMaps5
namespace Go.Proofs.YtfkeddkfegaeiaaGreatDoor
open Go.ChangeShapes Go.WideShapes Go.ChangeAt Go.RowKit Go.ChangeMaps

theorem named_holds : Rows.NamedSaid :=
  OpenClaim.holds_of_wide 5 Tryz.f5 rfl rfl rfl rfl rfl rfl rfl ⟨rfl, rfl, rfl, rfl, rfl⟩ rfl rfl rfl rfl rfl (by kernel_rfl) Tryz.func5 named_closed
    (of_decide_eq_true (by kernel_rfl)) (by unfold Func.isWrapper; rw [if_neg (of_decide_eq_false (by kernel_rfl))]; exact ⟨rfl, rfl⟩)
    (fun os started H enc _ => named_lifted os started H enc)

theorem named_card : Rows.NamedCardSaid :=
  card_goes _ _ _
    named_holds (by kernel_rfl) named_row_tie rfl ⟨rfl, rfl⟩ (by kernel_rfl)
    (fun f fn hf hfn => by
      obtain rfl : f = 5 := Option.some.inj ((show Tryz.prog.funcNamed "quarry/quarrylaw.Named" = some 5 by kernel_rfl).symm.trans hf) |>.symm
      obtain rfl : fn = Tryz.f5 := (Option.some.inj (Tryz.func5.symm.trans hfn)).symm
      exact ⟨by kernel_rfl, fun j t ht => by
        rw [Tryz.params5] at ht
        obtain rfl : t = 9 := by simpa using Array.mem_of_getElem? ht
        exact (show Tryz.prog.wantsStandIn 9 = false by kernel_rfl)⟩)
    (by kernel_rfl)
#print axioms named_card
end Go.Proofs.YtfkeddkfegaeiaaGreatDoor
