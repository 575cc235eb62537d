/-
  Part 52.
-/
import Derived.Test.YtfkeddkfegaeiaaGreatDoorRows
import Derived.Test.YtfkeddkfegaeiaaGreatDoorChecked
import Derived.JoinedOf
import Derived.KernelRfl
namespace Go.Proofs.YtfkeddkfegaeiaaGreatDoor

theorem reckons_f1 : laidOutB Tryz.prog = true := by kernel_rfl
theorem reckons_f2 : (Rows.reckonsRow.inPlace == Tryz.prog.inPlace 7) = true := by kernel_rfl
theorem reckons_f3 : (Rows.reckonsRow.unfollowed == Tryz.prog.unfollowed 7) = true := by kernel_rfl
theorem reckons_f4 : (Rows.reckonsRow.recurses == Tryz.prog.recurses 7) = true := by kernel_rfl
theorem reckons_f5 : (Rows.reckonsRow.named == Tryz.prog.varsNamed 7) = true := by kernel_rfl
theorem reckons_closed : joinedFacts Tryz.prog 7 Tryz.f7 Rows.reckonsSpec Rows.reckonsRow = true := by
  unfold joinedFacts
  rw [reckons_f1, reckons_f2, reckons_f3, reckons_f4, reckons_f5]
  kernel_rfl
end Go.Proofs.YtfkeddkfegaeiaaGreatDoor
