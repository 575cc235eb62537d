/-
  DERIVED. GIVEN WITH THE SEED: THE PROGRAM's TIES (one call each: nine closed facts by the kernel) AND EACH ROW's TIE, after the 31st guide's Derived/Test/Toyas{Tie, Card}.lean. No idea stands in it: it is a product of the set-up. Laid BY PROGRAM, IN A SANDBOX (cutbox-door.mjs). By AI agents, Wed Nov 11 2026. No macro, syntax, notation, axiom, sorry.
-/
import Derived.Test.YtfkeddkfegaeiaaDoorRows
import Derived.LaidByTextLater
import Derived.SevenTiedAt
import Derived.LaidSub
import Derived.LaidOnce
namespace Go.Proofs.YtfkeddkfegaeiaaDoor
open Go
set_option maxRecDepth 100000
theorem seatTie1 : Tryd.prog.laidByTextLater [("quarry/api.ErrLong", Rows.laid_quarry_api_ErrLong), ("quarry/api.ErrByte", Rows.laid_quarry_api_ErrByte), ("quarry/api.ErrNumber", Rows.laid_quarry_api_ErrNumber), ("quarry/api.ErrSyntax", Rows.laid_quarry_api_ErrSyntax), ("quarry/api.ErrTable", Rows.laid_quarry_api_ErrTable), ("quarry/api.ErrColumn", Rows.laid_quarry_api_ErrColumn), ("quarry/api.ErrTwice", Rows.laid_quarry_api_ErrTwice), ("quarry/api.ErrWindow", Rows.laid_quarry_api_ErrWindow), ("quarry/api.ErrMany", Rows.laid_quarry_api_ErrMany), ("quarry/api.ErrShape", Rows.laid_quarry_api_ErrShape)] [.sentinel, .sentinel, .sentinel, .sentinel, .sentinel, .sentinel, .sentinel, .sentinel, .sentinel, .sentinel] true :=
  Program.laidByTextLater_by_one 199 8 2 (by kernel_rfl) (by kernel_rfl) (by kernel_rfl) (by kernel_rfl) (by kernel_rfl) (by kernel_rfl) (fun _ _ => by kernel_rfl)
theorem noOwnUnsafe : Tryd.pinned.checked.prog.headLifts.contains "ownunsafe" = false := by kernel_rfl
theorem tie : Tryd.prog.laidByTextLater [("quarry/api.ErrLong", Rows.laid_quarry_api_ErrLong), ("quarry/api.ErrByte", Rows.laid_quarry_api_ErrByte), ("quarry/api.ErrNumber", Rows.laid_quarry_api_ErrNumber), ("quarry/api.ErrSyntax", Rows.laid_quarry_api_ErrSyntax), ("quarry/api.ErrTable", Rows.laid_quarry_api_ErrTable), ("quarry/api.ErrColumn", Rows.laid_quarry_api_ErrColumn), ("quarry/api.ErrTwice", Rows.laid_quarry_api_ErrTwice), ("quarry/api.ErrWindow", Rows.laid_quarry_api_ErrWindow), ("quarry/api.ErrMany", Rows.laid_quarry_api_ErrMany), ("quarry/api.ErrShape", Rows.laid_quarry_api_ErrShape)] [.sentinel, .sentinel, .sentinel, .sentinel, .sentinel, .sentinel, .sentinel, .sentinel, .sentinel, .sentinel] true :=
  Program.laidByTextLater.sub seatTie1 ["quarry/api.ErrLong", "quarry/api.ErrByte", "quarry/api.ErrNumber", "quarry/api.ErrSyntax", "quarry/api.ErrTable", "quarry/api.ErrColumn", "quarry/api.ErrTwice", "quarry/api.ErrWindow", "quarry/api.ErrMany", "quarry/api.ErrShape"] (by kernel_rfl) (by kernel_rfl)
theorem names_row_tie : Rows.namesRow.laidByTextAt .later Tryd.pinned [.sentinel, .sentinel, .sentinel, .sentinel, .sentinel, .sentinel, .sentinel, .sentinel, .sentinel, .sentinel] true :=
  OpenClaim.laidByTextAt_later rfl rfl tie noOwnUnsafe
theorem news_row_tie : Rows.newsRow.laidByTextAt .later Tryd.pinned [.sentinel, .sentinel, .sentinel, .sentinel, .sentinel, .sentinel, .sentinel, .sentinel, .sentinel, .sentinel] true :=
  OpenClaim.laidByTextAt_later rfl rfl tie noOwnUnsafe
theorem namesUpto_row_tie : Rows.namesUptoRow.laidByTextAt .later Tryd.pinned [.sentinel, .sentinel, .sentinel, .sentinel, .sentinel, .sentinel, .sentinel, .sentinel, .sentinel, .sentinel] true :=
  OpenClaim.laidByTextAt_later rfl rfl tie noOwnUnsafe
theorem newsUpto_row_tie : Rows.newsUptoRow.laidByTextAt .later Tryd.pinned [.sentinel, .sentinel, .sentinel, .sentinel, .sentinel, .sentinel, .sentinel, .sentinel, .sentinel, .sentinel] true :=
  OpenClaim.laidByTextAt_later rfl rfl tie noOwnUnsafe
end Go.Proofs.YtfkeddkfegaeiaaDoor
