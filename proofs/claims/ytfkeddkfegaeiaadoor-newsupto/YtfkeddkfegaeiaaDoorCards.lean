/-
  DERIVED. GIVEN WITH THE SEED: THE CARDS: each row of YtfkeddkfegaeiaaDoorRows.lean that lists a variable, with what it lists TIED to the program's text (the seventh form; the later family's looks); each row that meets fmt, with fmt's text TOLD by the authors' own Lean function (tested against real Go, not proved from fmt's source: count such statements apart). THE CARD IS WHAT COUNTS. Prove the row's statement (the work); the ties are given (YtfkeddkfegaeiaaDoorTie.lean); close each card by the builder's one call (the guide's Derived/Test/ToyasCard.lean, 'card_holds'). Laid BY PROGRAM, IN A SANDBOX (cutbox-door.mjs). By AI agents, Wed Nov 11 2026. No macro, syntax, notation, axiom, sorry.
-/
import Derived.Test.YtfkeddkfegaeiaaDoorRows
import GoSem.ClaimSeven
namespace Go.Proofs.YtfkeddkfegaeiaaDoor
namespace Rows

/-- THE TIED CARD OF 'quarrylaw.Names'. -/
def namesCard : Claim7 := { stood := { row := namesRow, standIns := [], harness := (true, "c5210e41eade33c5a907ed39faf33475f3bce6dcf443e530c71d304a9f063604"), looks := true }, kinds := [], alts := [], laidByText := true, laidKinds := [.sentinel, .sentinel, .sentinel, .sentinel, .sentinel, .sentinel, .sentinel, .sentinel, .sentinel, .sentinel], laidTests := true, laidLooks := .later }
def NamesCardSaid : Prop := Claim7.holds Tryd.pinned (.plain (OpenSpec.ofChange namesSpec)) namesCard

/-- THE TIED CARD OF 'quarrylaw.News'. -/
def newsCard : Claim7 := { stood := { row := newsRow, standIns := [], harness := (true, "c5210e41eade33c5a907ed39faf33475f3bce6dcf443e530c71d304a9f063604"), looks := true }, kinds := [], alts := [], laidByText := true, laidKinds := [.sentinel, .sentinel, .sentinel, .sentinel, .sentinel, .sentinel, .sentinel, .sentinel, .sentinel, .sentinel], laidTests := true, laidLooks := .later }
def NewsCardSaid : Prop := Claim7.holds Tryd.pinned (.plain (OpenSpec.ofChange newsSpec)) newsCard

/-- THE SECOND FORM's CARD OF 'quarrylaw.Names'. -/
def namesUptoCard : Claim7 := { stood := { row := namesUptoRow, standIns := [], harness := (true, "c5210e41eade33c5a907ed39faf33475f3bce6dcf443e530c71d304a9f063604"), looks := true }, kinds := [], alts := [], laidByText := true, laidKinds := [.sentinel, .sentinel, .sentinel, .sentinel, .sentinel, .sentinel, .sentinel, .sentinel, .sentinel, .sentinel], laidTests := true, laidLooks := .later }
def NamesUptoCardSaid : Prop := Claim7.holds Tryd.pinned (.plain (OpenSpec.upto namesSpec)) namesUptoCard

/-- THE SECOND FORM's CARD OF 'quarrylaw.News'. -/
def newsUptoCard : Claim7 := { stood := { row := newsUptoRow, standIns := [], harness := (true, "c5210e41eade33c5a907ed39faf33475f3bce6dcf443e530c71d304a9f063604"), looks := true }, kinds := [], alts := [], laidByText := true, laidKinds := [.sentinel, .sentinel, .sentinel, .sentinel, .sentinel, .sentinel, .sentinel, .sentinel, .sentinel, .sentinel], laidTests := true, laidLooks := .later }
def NewsUptoCardSaid : Prop := Claim7.holds Tryd.pinned (.plain (OpenSpec.upto newsSpec)) newsUptoCard
end Rows
end Go.Proofs.YtfkeddkfegaeiaaDoor
