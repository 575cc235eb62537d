/-
  Part 48.
-/
import Derived.Test.YtfkeddkfegaeiaaGreatDoorRows
import Derived.Test.YtfkeddkfegaeiaaGreatDoorChecked
import Derived.JoinedOf
import Derived.KernelRfl
namespace Go.Proofs.YtfkeddkfegaeiaaGreatDoor

theorem tells_f1 : laidOutB Tryz.prog = true := by kernel_rfl
theorem tells_f2 : (Rows.tellsRow.inPlace == Tryz.prog.inPlace 3) = true := by kernel_rfl
theorem tells_f3 : (Rows.tellsRow.unfollowed == Tryz.prog.unfollowed 3) = true := by kernel_rfl
theorem tells_f4 : (Rows.tellsRow.recurses == Tryz.prog.recurses 3) = true := by kernel_rfl
theorem tells_f5 : (Rows.tellsRow.named == Tryz.prog.varsNamed 3) = true := by kernel_rfl
theorem tells_closed : joinedFacts Tryz.prog 3 Tryz.f3 Rows.tellsSpec Rows.tellsRow = true := by
  unfold joinedFacts
  rw [tells_f1, tells_f2, tells_f3, tells_f4, tells_f5]
  kernel_rfl
end Go.Proofs.YtfkeddkfegaeiaaGreatDoor
