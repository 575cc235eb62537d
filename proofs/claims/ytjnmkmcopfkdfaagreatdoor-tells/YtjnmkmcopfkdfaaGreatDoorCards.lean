/-
  DERIVED. GIVEN WITH THE SEED: THE CARDS: each row of YtjnmkmcopfkdfaaGreatDoorRows.lean that lists a variable, with what it lists TIED to the program's text (the seventh form; the later family's looks); each row that meets fmt, with fmt's text TOLD by the authors' own Lean function (tested against real Go, not proved from fmt's source: count such statements apart). THE CARD IS WHAT COUNTS. Prove the row's statement (the work); the ties are given (YtjnmkmcopfkdfaaGreatDoorTie.lean); close each card by the builder's one call (the guide's Derived/Test/ToyasCard.lean, 'card_holds'). Laid BY PROGRAM, IN A SANDBOX (cutbox-door.mjs). By AI agents, Wed Nov 11 2026. No macro, syntax, notation, axiom, sorry.
-/
import Derived.Test.YtjnmkmcopfkdfaaGreatDoorRows
import GoSem.ClaimSeven
namespace Go.Proofs.YtjnmkmcopfkdfaaGreatDoor
namespace Rows

/-- THE TIED CARD OF 'quarrylaw.Tells'. -/
def tellsCard : Claim7 := { stood := { row := tellsRow, standIns := [], harness := (true, "94a98d2dac29e7f2facc0fb13bada2e76e26fa0b619d93b4210b3e1594d6c8d7"), looks := true }, kinds := [], alts := [], laidByText := true, laidKinds := [.data, .data, .data, .sentinel, .sentinel, .sentinel, .sentinel, .sentinel, .sentinel, .sentinel, .sentinel, .sentinel, .sentinel, .sentinel, .sentinel], laidTests := true, laidLooks := .later }
def TellsCardSaid : Prop := Claim7.holds Tryz.pinned (.plain (OpenSpec.ofChange tellsSpec)) tellsCard

/-- THE TIED CARD OF 'quarrylaw.Anew'. -/
def anewCard : Claim7 := { stood := { row := anewRow, standIns := [], harness := (true, "94a98d2dac29e7f2facc0fb13bada2e76e26fa0b619d93b4210b3e1594d6c8d7"), looks := true }, kinds := [], alts := [], laidByText := true, laidKinds := [.data, .data, .data, .sentinel, .sentinel, .sentinel, .sentinel, .sentinel, .sentinel, .sentinel], laidTests := true, laidLooks := .later }
def AnewCardSaid : Prop := Claim7.holds Tryz.pinned (.plain (OpenSpec.ofChange anewSpec)) anewCard

/-- THE TIED CARD OF 'quarrylaw.Named'. -/
def namedCard : Claim7 := { stood := { row := namedRow, standIns := [], harness := (true, "94a98d2dac29e7f2facc0fb13bada2e76e26fa0b619d93b4210b3e1594d6c8d7"), looks := true }, kinds := [], alts := [], laidByText := true, laidKinds := [.data, .data, .data, .sentinel, .sentinel, .sentinel, .sentinel, .sentinel, .sentinel, .sentinel, .sentinel, .sentinel, .sentinel, .sentinel, .sentinel], laidTests := true, laidLooks := .later }
def NamedCardSaid : Prop := Claim7.holds Tryz.pinned (.plain (OpenSpec.ofChange namedSpec)) namedCard

/-- THE SECOND FORM's CARD OF 'quarrylaw.Tells'. -/
def tellsUptoCard : Claim7 := { stood := { row := tellsUptoRow, standIns := [], harness := (true, "94a98d2dac29e7f2facc0fb13bada2e76e26fa0b619d93b4210b3e1594d6c8d7"), looks := true }, kinds := [], alts := [], laidByText := true, laidKinds := [.data, .data, .data, .sentinel, .sentinel, .sentinel, .sentinel, .sentinel, .sentinel, .sentinel, .sentinel, .sentinel, .sentinel, .sentinel, .sentinel], laidTests := true, laidLooks := .later }
def TellsUptoCardSaid : Prop := Claim7.holds Tryz.pinned (.plain (OpenSpec.upto tellsSpec)) tellsUptoCard

/-- THE SECOND FORM's CARD OF 'quarrylaw.Anew'. -/
def anewUptoCard : Claim7 := { stood := { row := anewUptoRow, standIns := [], harness := (true, "94a98d2dac29e7f2facc0fb13bada2e76e26fa0b619d93b4210b3e1594d6c8d7"), looks := true }, kinds := [], alts := [], laidByText := true, laidKinds := [.data, .data, .data, .sentinel, .sentinel, .sentinel, .sentinel, .sentinel, .sentinel, .sentinel], laidTests := true, laidLooks := .later }
def AnewUptoCardSaid : Prop := Claim7.holds Tryz.pinned (.plain (OpenSpec.upto anewSpec)) anewUptoCard

/-- THE SECOND FORM's CARD OF 'quarrylaw.Named'. -/
def namedUptoCard : Claim7 := { stood := { row := namedUptoRow, standIns := [], harness := (true, "94a98d2dac29e7f2facc0fb13bada2e76e26fa0b619d93b4210b3e1594d6c8d7"), looks := true }, kinds := [], alts := [], laidByText := true, laidKinds := [.data, .data, .data, .sentinel, .sentinel, .sentinel, .sentinel, .sentinel, .sentinel, .sentinel, .sentinel, .sentinel, .sentinel, .sentinel, .sentinel], laidTests := true, laidLooks := .later }
def NamedUptoCardSaid : Prop := Claim7.holds Tryz.pinned (.plain (OpenSpec.upto namedSpec)) namedUptoCard
end Rows
end Go.Proofs.YtjnmkmcopfkdfaaGreatDoor
