/-
  Part 35.
-/
import Derived.Test.YtfkeddkfegaeiaaGreatDoorRows
import Derived.Test.YtfkeddkfegaeiaaGreatDoorChecked
import Derived.JoinedOf
import Derived.KernelRfl
namespace Go.Proofs.YtfkeddkfegaeiaaGreatDoor

theorem anew_f1 : laidOutB Tryz.prog = true := by kernel_rfl
theorem anew_f2 : (Rows.anewRow.inPlace == Tryz.prog.inPlace 4) = true := by kernel_rfl
theorem anew_f3 : (Rows.anewRow.unfollowed == Tryz.prog.unfollowed 4) = true := by kernel_rfl
theorem anew_f4 : (Rows.anewRow.recurses == Tryz.prog.recurses 4) = true := by kernel_rfl
theorem anew_f5 : (Rows.anewRow.named == Tryz.prog.varsNamed 4) = true := by kernel_rfl
theorem anew_closed : joinedFacts Tryz.prog 4 Tryz.f4 Rows.anewSpec Rows.anewRow = true := by
  unfold joinedFacts
  rw [anew_f1, anew_f2, anew_f3, anew_f4, anew_f5]
  kernel_rfl
end Go.Proofs.YtfkeddkfegaeiaaGreatDoor
