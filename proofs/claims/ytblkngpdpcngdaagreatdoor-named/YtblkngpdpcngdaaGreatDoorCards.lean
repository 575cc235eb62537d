/-
  DERIVED. GIVEN WITH THE SEED: THE CARDS: each row of YtblkngpdpcngdaaGreatDoorRows.lean that lists a variable, with what it lists TIED to the program's text (the seventh form; the later family's looks); each row that meets fmt, with fmt's text TOLD by the authors' own Lean function (tested against real Go, not proved from fmt's source: count such statements apart). THE CARD IS WHAT COUNTS. Prove the row's statement (the work); the ties are given (YtblkngpdpcngdaaGreatDoorTie.lean); close each card by the builder's one call (the guide's Derived/Test/ToyasCard.lean, 'card_holds'). Laid BY PROGRAM, IN A SANDBOX (cutbox-door.mjs). By AI agents, Wed Nov 11 2026. No macro, syntax, notation, axiom, sorry.
-/
import Derived.Test.YtblkngpdpcngdaaGreatDoorRows
import GoSem.ClaimSeven
namespace Go.Proofs.YtblkngpdpcngdaaGreatDoor
namespace Rows

/-- THE TIED CARD OF 'quarrylaw.Tells'. -/
def tellsCard : Claim7 := { stood := { row := tellsRow, standIns := [], harness := (true, "b48b1bf147a93af7a2921789fb476ac18cdee64e614b4907a7fa26c39fa7af22"), looks := true }, kinds := [], alts := [], laidByText := true, laidKinds := [.data, .data, .data, .sentinel, .sentinel, .sentinel, .sentinel, .sentinel, .sentinel, .sentinel, .sentinel, .sentinel, .sentinel, .sentinel, .sentinel], laidTests := true, laidLooks := .later }
def TellsCardSaid : Prop := Claim7.holds Tryz.pinned (.plain (OpenSpec.ofChange tellsSpec)) tellsCard

/-- THE TIED CARD OF 'quarrylaw.Anew'. -/
def anewCard : Claim7 := { stood := { row := anewRow, standIns := [], harness := (true, "b48b1bf147a93af7a2921789fb476ac18cdee64e614b4907a7fa26c39fa7af22"), looks := true }, kinds := [], alts := [], laidByText := true, laidKinds := [.data, .data, .data, .sentinel, .sentinel, .sentinel, .sentinel, .sentinel, .sentinel, .sentinel], laidTests := true, laidLooks := .later }
def AnewCardSaid : Prop := Claim7.holds Tryz.pinned (.plain (OpenSpec.ofChange anewSpec)) anewCard

/-- THE TIED CARD OF 'quarrylaw.Named'. -/
def namedCard : Claim7 := { stood := { row := namedRow, standIns := [], harness := (true, "b48b1bf147a93af7a2921789fb476ac18cdee64e614b4907a7fa26c39fa7af22"), looks := true }, kinds := [], alts := [], laidByText := true, laidKinds := [.data, .data, .data, .sentinel, .sentinel, .sentinel, .sentinel, .sentinel, .sentinel, .sentinel, .sentinel, .sentinel, .sentinel, .sentinel, .sentinel], laidTests := true, laidLooks := .later }
def NamedCardSaid : Prop := Claim7.holds Tryz.pinned (.plain (OpenSpec.ofChange namedSpec)) namedCard

/-- THE TIED CARD OF 'quarrylaw.Plains'. -/
def plainsCard : Claim7 := { stood := { row := plainsRow, standIns := [], harness := (true, "b48b1bf147a93af7a2921789fb476ac18cdee64e614b4907a7fa26c39fa7af22"), looks := true }, kinds := [], alts := [], laidByText := true, laidKinds := [.data, .data, .data, .sentinel, .sentinel, .sentinel, .sentinel, .sentinel, .sentinel, .sentinel, .sentinel, .sentinel, .sentinel, .sentinel, .sentinel], laidTests := true, laidLooks := .later }
def PlainsCardSaid : Prop := Claim7.holds Tryz.pinned (.plain (OpenSpec.ofChange plainsSpec)) plainsCard

/-- THE TIED CARD OF 'quarrylaw.Reckons'. -/
def reckonsCard : Claim7 := { stood := { row := reckonsRow, standIns := [], harness := (true, "b48b1bf147a93af7a2921789fb476ac18cdee64e614b4907a7fa26c39fa7af22"), looks := true }, kinds := [], alts := [], laidByText := true, laidKinds := [.data, .data, .data, .sentinel, .sentinel, .sentinel, .sentinel, .sentinel, .sentinel, .sentinel, .sentinel, .sentinel, .sentinel, .sentinel, .sentinel], laidTests := true, laidLooks := .later }
def ReckonsCardSaid : Prop := Claim7.holds Tryz.pinned (.plain (OpenSpec.ofChange reckonsSpec)) reckonsCard

/-- THE TIED CARD OF 'quarrylaw.Apart'. -/
def apartCard : Claim7 := { stood := { row := apartRow, standIns := [], harness := (true, "b48b1bf147a93af7a2921789fb476ac18cdee64e614b4907a7fa26c39fa7af22"), looks := true }, kinds := [], alts := [], laidByText := true, laidKinds := [.data, .data, .data, .sentinel, .sentinel, .sentinel, .sentinel, .sentinel, .sentinel, .sentinel, .sentinel, .sentinel, .sentinel, .sentinel, .sentinel], laidTests := true, laidLooks := .later }
def ApartCardSaid : Prop := Claim7.holds Tryz.pinned (.plain (OpenSpec.ofChange apartSpec)) apartCard

/-- THE SECOND FORM's CARD OF 'quarrylaw.Tells'. -/
def tellsUptoCard : Claim7 := { stood := { row := tellsUptoRow, standIns := [], harness := (true, "b48b1bf147a93af7a2921789fb476ac18cdee64e614b4907a7fa26c39fa7af22"), looks := true }, kinds := [], alts := [], laidByText := true, laidKinds := [.data, .data, .data, .sentinel, .sentinel, .sentinel, .sentinel, .sentinel, .sentinel, .sentinel, .sentinel, .sentinel, .sentinel, .sentinel, .sentinel], laidTests := true, laidLooks := .later }
def TellsUptoCardSaid : Prop := Claim7.holds Tryz.pinned (.plain (OpenSpec.upto tellsSpec)) tellsUptoCard

/-- THE SECOND FORM's CARD OF 'quarrylaw.Anew'. -/
def anewUptoCard : Claim7 := { stood := { row := anewUptoRow, standIns := [], harness := (true, "b48b1bf147a93af7a2921789fb476ac18cdee64e614b4907a7fa26c39fa7af22"), looks := true }, kinds := [], alts := [], laidByText := true, laidKinds := [.data, .data, .data, .sentinel, .sentinel, .sentinel, .sentinel, .sentinel, .sentinel, .sentinel], laidTests := true, laidLooks := .later }
def AnewUptoCardSaid : Prop := Claim7.holds Tryz.pinned (.plain (OpenSpec.upto anewSpec)) anewUptoCard

/-- THE SECOND FORM's CARD OF 'quarrylaw.Named'. -/
def namedUptoCard : Claim7 := { stood := { row := namedUptoRow, standIns := [], harness := (true, "b48b1bf147a93af7a2921789fb476ac18cdee64e614b4907a7fa26c39fa7af22"), looks := true }, kinds := [], alts := [], laidByText := true, laidKinds := [.data, .data, .data, .sentinel, .sentinel, .sentinel, .sentinel, .sentinel, .sentinel, .sentinel, .sentinel, .sentinel, .sentinel, .sentinel, .sentinel], laidTests := true, laidLooks := .later }
def NamedUptoCardSaid : Prop := Claim7.holds Tryz.pinned (.plain (OpenSpec.upto namedSpec)) namedUptoCard

/-- THE SECOND FORM's CARD OF 'quarrylaw.Plains'. -/
def plainsUptoCard : Claim7 := { stood := { row := plainsUptoRow, standIns := [], harness := (true, "b48b1bf147a93af7a2921789fb476ac18cdee64e614b4907a7fa26c39fa7af22"), looks := true }, kinds := [], alts := [], laidByText := true, laidKinds := [.data, .data, .data, .sentinel, .sentinel, .sentinel, .sentinel, .sentinel, .sentinel, .sentinel, .sentinel, .sentinel, .sentinel, .sentinel, .sentinel], laidTests := true, laidLooks := .later }
def PlainsUptoCardSaid : Prop := Claim7.holds Tryz.pinned (.plain (OpenSpec.upto plainsSpec)) plainsUptoCard

/-- THE SECOND FORM's CARD OF 'quarrylaw.Reckons'. -/
def reckonsUptoCard : Claim7 := { stood := { row := reckonsUptoRow, standIns := [], harness := (true, "b48b1bf147a93af7a2921789fb476ac18cdee64e614b4907a7fa26c39fa7af22"), looks := true }, kinds := [], alts := [], laidByText := true, laidKinds := [.data, .data, .data, .sentinel, .sentinel, .sentinel, .sentinel, .sentinel, .sentinel, .sentinel, .sentinel, .sentinel, .sentinel, .sentinel, .sentinel], laidTests := true, laidLooks := .later }
def ReckonsUptoCardSaid : Prop := Claim7.holds Tryz.pinned (.plain (OpenSpec.upto reckonsSpec)) reckonsUptoCard

/-- THE SECOND FORM's CARD OF 'quarrylaw.Apart'. -/
def apartUptoCard : Claim7 := { stood := { row := apartUptoRow, standIns := [], harness := (true, "b48b1bf147a93af7a2921789fb476ac18cdee64e614b4907a7fa26c39fa7af22"), looks := true }, kinds := [], alts := [], laidByText := true, laidKinds := [.data, .data, .data, .sentinel, .sentinel, .sentinel, .sentinel, .sentinel, .sentinel, .sentinel, .sentinel, .sentinel, .sentinel, .sentinel, .sentinel], laidTests := true, laidLooks := .later }
def ApartUptoCardSaid : Prop := Claim7.holds Tryz.pinned (.plain (OpenSpec.upto apartSpec)) apartUptoCard
end Rows
end Go.Proofs.YtblkngpdpcngdaaGreatDoor
