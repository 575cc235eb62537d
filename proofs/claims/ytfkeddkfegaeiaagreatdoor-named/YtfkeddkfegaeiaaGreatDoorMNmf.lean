/-
  Part 35.
-/
import Derived.Test.YtfkeddkfegaeiaaGreatDoorRows
import Derived.Test.YtfkeddkfegaeiaaGreatDoorChecked
import Derived.JoinedOf
import Derived.KernelRfl
namespace Go.Proofs.YtfkeddkfegaeiaaGreatDoor

theorem named_f1 : laidOutB Tryz.prog = true := by kernel_rfl
theorem named_f2 : (Rows.namedRow.inPlace == Tryz.prog.inPlace 5) = true := by kernel_rfl
theorem named_f3 : (Rows.namedRow.unfollowed == Tryz.prog.unfollowed 5) = true := by kernel_rfl
theorem named_f4 : (Rows.namedRow.recurses == Tryz.prog.recurses 5) = true := by kernel_rfl
theorem named_f5 : (Rows.namedRow.named == Tryz.prog.varsNamed 5) = true := by kernel_rfl
theorem named_closed : joinedFacts Tryz.prog 5 Tryz.f5 Rows.namedSpec Rows.namedRow = true := by
  unfold joinedFacts
  rw [named_f1, named_f2, named_f3, named_f4, named_f5]
  kernel_rfl
end Go.Proofs.YtfkeddkfegaeiaaGreatDoor
