/-
  NARROWER THAN 'FOR EVERY INPUT', by the rows' own cells (each row's printed sentence says how): Names: laid · News: laid.
  DERIVED. THE GIVEN ROWS OF THIS SEAT. 2 by the template 'for every input the law returns true; each argument reads behind the call as it read before'; 0 by the template 'total and deterministic' (their statements: YtfkeddkfegaeiaaDoorTotals.lean).
  GIVEN WITH THE SEED: the statements are not yours to turn. If you find one false, say at which input.
  Laid BY PROGRAM, IN A SANDBOX (cutbox-rows.mjs): the forced cells as the released guide's own fill.sh prints them over the translation e0b3bb2e57479096… (all of the seat's roots in one cut). By AI agents, Wed Nov 11 2026. No macro, syntax, notation, axiom, sorry.
-/
import Derived.Test.YtfkeddkfegaeiaaDoorChecked
import GoSem.Claim
import GoSem.ClaimJoined
import GoSem.ClaimMapViews
import Derived.JoinedTies
import Derived.KernelRfl
namespace Go.Proofs.YtfkeddkfegaeiaaDoor
/- THE CELL 'sum', in the pinned program and in every row, IS THE sha256 OF THE DUMP (.gsa) THAT YtfkeddkfegaeiaaDoorProg.lean LOADS. Nothing in Lean hashes anything: it is a label: what it is worth is what the hold of that sum in a sandbox is worth. -/
noncomputable def Tryd.pinned : Pinned := { name := "ytfkeddkfegaeiaadoor", sum := "e0b3bb2e5747909650c0accf59acf9b153b300d2e56c2d2dd576193ff2e9e20f", checked := Tryd.checked }
namespace Rows
def none {H : Type} : Left H := { results := [], args := [] }

/- WHAT THE LISTED PACKAGE-LEVEL VARIABLES READ AS WHEN THE CALL BEGINS. Each datum BY PROGRAM (the guide's laid-datum.mjs) off the statement by which the dump's own 'gosem.cut.vars' lays the variable. In a bare row this is a premise. The card (YtfkeddkfegaeiaaDoorCards.lean) ties it to the program's text. -/
def laid_quarry_api_ErrLong {H : Type} : DataW H := .iface "*errors.errorString" (.ptr (.agg [.lit (.string [116, 111, 111, 32, 108, 111, 110, 103])]))
def laid_quarry_api_ErrByte {H : Type} : DataW H := .iface "*errors.errorString" (.ptr (.agg [.lit (.string [110, 111, 32, 115, 117, 99, 104, 32, 98, 121, 116, 101])]))
def laid_quarry_api_ErrNumber {H : Type} : DataW H := .iface "*errors.errorString" (.ptr (.agg [.lit (.string [116, 111, 111, 32, 103, 114, 101, 97, 116, 32, 97, 32, 110, 117, 109, 98, 101, 114])]))
def laid_quarry_api_ErrSyntax {H : Type} : DataW H := .iface "*errors.errorString" (.ptr (.agg [.lit (.string [110, 111, 116, 32, 97, 115, 32, 105, 116, 32, 109, 117, 115, 116, 32, 98, 101])]))
def laid_quarry_api_ErrTable {H : Type} : DataW H := .iface "*errors.errorString" (.ptr (.agg [.lit (.string [110, 111, 32, 115, 117, 99, 104, 32, 116, 97, 98, 108, 101])]))
def laid_quarry_api_ErrColumn {H : Type} : DataW H := .iface "*errors.errorString" (.ptr (.agg [.lit (.string [110, 111, 32, 115, 117, 99, 104, 32, 99, 111, 108, 117, 109, 110])]))
def laid_quarry_api_ErrTwice {H : Type} : DataW H := .iface "*errors.errorString" (.ptr (.agg [.lit (.string [116, 104, 101, 114, 101, 32, 116, 119, 105, 99, 101])]))
def laid_quarry_api_ErrWindow {H : Type} : DataW H := .iface "*errors.errorString" (.ptr (.agg [.lit (.string [97, 32, 119, 105, 110, 100, 111, 119, 32, 119, 104, 101, 114, 101, 32, 110, 111, 110, 101, 32, 109, 97, 121, 32, 98, 101])]))
def laid_quarry_api_ErrMany {H : Type} : DataW H := .iface "*errors.errorString" (.ptr (.agg [.lit (.string [116, 111, 111, 32, 109, 97, 110, 121])]))
def laid_quarry_api_ErrShape {H : Type} : DataW H := .iface "*errors.errorString" (.ptr (.agg [.lit (.string [111, 102, 32, 97, 110, 111, 116, 104, 101, 114, 32, 115, 104, 97, 112, 101])]))

/-- 'quarrylaw.Names': WHATEVER THE INPUT: true; the input reads as it did. -/
def namesSpec : ChangeSpec := { name := "names", fn := fun _ => fun
  | [] => { results := [.lit (.bool true)], args := [] }
  | _ => none }
def namesRow : OpenClaim := { program := "ytfkeddkfegaeiaadoor", sum := "e0b3bb2e5747909650c0accf59acf9b153b300d2e56c2d2dd576193ff2e9e20f", func := "quarry/quarrylaw.Names", spec := "names", named := ["quarry/api.ErrLong", "quarry/api.ErrByte", "quarry/api.ErrNumber", "quarry/api.ErrSyntax", "quarry/api.ErrTable", "quarry/api.ErrColumn", "quarry/api.ErrTwice", "quarry/api.ErrWindow", "quarry/api.ErrMany", "quarry/api.ErrShape"], apart := false, laid := [("quarry/api.ErrLong", laid_quarry_api_ErrLong), ("quarry/api.ErrByte", laid_quarry_api_ErrByte), ("quarry/api.ErrNumber", laid_quarry_api_ErrNumber), ("quarry/api.ErrSyntax", laid_quarry_api_ErrSyntax), ("quarry/api.ErrTable", laid_quarry_api_ErrTable), ("quarry/api.ErrColumn", laid_quarry_api_ErrColumn), ("quarry/api.ErrTwice", laid_quarry_api_ErrTwice), ("quarry/api.ErrWindow", laid_quarry_api_ErrWindow), ("quarry/api.ErrMany", laid_quarry_api_ErrMany), ("quarry/api.ErrShape", laid_quarry_api_ErrShape)] }
def NamesSaid : Prop := namesRow.holds Tryd.pinned (OpenSpec.ofChange namesSpec)

/-- ITS FALSE NEIGHBOUR: 'it returns false'. Refute it at one input. -/
def namesWrong : ChangeSpec := { name := "names", fn := fun _ => fun
  | [] => { results := [.lit (.bool false)], args := [] }
  | _ => none }
def NamesWrongFalsely : Prop := namesRow.holds Tryd.pinned (OpenSpec.ofChange namesWrong)

/-- 'quarrylaw.News': WHATEVER THE INPUT: true; the input reads as it did. -/
def newsSpec : ChangeSpec := { name := "news", fn := fun _ => fun
  | [d] => { results := [.lit (.bool true)], args := [d] }
  | _ => none }
def newsRow : OpenClaim := { program := "ytfkeddkfegaeiaadoor", sum := "e0b3bb2e5747909650c0accf59acf9b153b300d2e56c2d2dd576193ff2e9e20f", func := "quarry/quarrylaw.News", spec := "news", unfollowed := true, recurses := true, named := ["quarry/api.ErrMany", "quarry/api.ErrSyntax", "quarry/api.ErrTwice", "quarry/api.ErrShape", "quarry/api.ErrLong", "quarry/api.ErrByte", "quarry/api.ErrNumber", "quarry/api.ErrTable", "quarry/api.ErrColumn", "quarry/api.ErrWindow"], apart := false, laid := [("quarry/api.ErrLong", laid_quarry_api_ErrLong), ("quarry/api.ErrByte", laid_quarry_api_ErrByte), ("quarry/api.ErrNumber", laid_quarry_api_ErrNumber), ("quarry/api.ErrSyntax", laid_quarry_api_ErrSyntax), ("quarry/api.ErrTable", laid_quarry_api_ErrTable), ("quarry/api.ErrColumn", laid_quarry_api_ErrColumn), ("quarry/api.ErrTwice", laid_quarry_api_ErrTwice), ("quarry/api.ErrWindow", laid_quarry_api_ErrWindow), ("quarry/api.ErrMany", laid_quarry_api_ErrMany), ("quarry/api.ErrShape", laid_quarry_api_ErrShape)] }
def NewsSaid : Prop := newsRow.holds Tryd.pinned (OpenSpec.ofChange newsSpec)

/-- ITS FALSE NEIGHBOUR: 'it returns false'. Refute it at one input. -/
def newsWrong : ChangeSpec := { name := "news", fn := fun _ => fun
  | [d] => { results := [.lit (.bool false)], args := [d] }
  | _ => none }
def NewsWrongFalsely : Prop := newsRow.holds Tryd.pinned (OpenSpec.ofChange newsWrong)

/- THE SECOND FORM. 'bulk': how many values and letters a reading holds, each counted each time it is reached (what is shared counts as often as it is met; a slice's spare places count too). A statement '..UptoSaid' is the law's where the arguments, and the package variables that the reading takes, are together of bulk at most 1048576: NARROWER than '..Said'. Prove '..Said' where nothing that the law and all that it calls make is longer than what came in: it says more and counts as full. Else prove '..UptoSaid'. A law counts once. -/
mutual
def uptoBulk {H : Type} : DataW H → Nat
  | .lit (.string bytes) => bytes.length + 1
  | .lit _ => 1
  | .nil => 1
  | .ptr d => uptoBulk d + 1
  | .slice elems spare => uptoBulkAll elems + uptoBulkAll spare + 1
  | .agg parts => uptoBulkAll parts + 1
  | .iface _ d => uptoBulk d + 1
  | .map entries => uptoBulkEntries entries + 1
  | .held _ => 1
def uptoBulkAll {H : Type} : List (DataW H) → Nat
  | [] => 0
  | d :: r => uptoBulk d + uptoBulkAll r
def uptoBulkEntries {H : Type} : List (Lit × DataW H) → Nat
  | [] => 0
  | x :: r => uptoBulkEntry x + uptoBulkEntries r
def uptoBulkEntry {H : Type} : Lit × DataW H → Nat
  | (.string bytes, d) => bytes.length + uptoBulk d + 1
  | (_, d) => uptoBulk d + 1
 end
def uptoSmall : (H : Type) → List (DataW H) → Bool := fun _ ds => decide (uptoBulkAll ds ≤ 1048576)
def OpenSpec.upto (s : _root_.Go.ChangeSpec) : _root_.Go.OpenSpec := { _root_.Go.OpenSpec.ofChange s with cond := some uptoSmall }

/-- 'quarrylaw.Names', WHERE WHAT IT READS IS OF BULK AT MOST 1048576: true; the input reads as it did. -/
def namesUptoRow : OpenClaim := { program := "ytfkeddkfegaeiaadoor", sum := "e0b3bb2e5747909650c0accf59acf9b153b300d2e56c2d2dd576193ff2e9e20f", func := "quarry/quarrylaw.Names", spec := "names", named := ["quarry/api.ErrLong", "quarry/api.ErrByte", "quarry/api.ErrNumber", "quarry/api.ErrSyntax", "quarry/api.ErrTable", "quarry/api.ErrColumn", "quarry/api.ErrTwice", "quarry/api.ErrWindow", "quarry/api.ErrMany", "quarry/api.ErrShape"], apart := false, laid := [("quarry/api.ErrLong", laid_quarry_api_ErrLong), ("quarry/api.ErrByte", laid_quarry_api_ErrByte), ("quarry/api.ErrNumber", laid_quarry_api_ErrNumber), ("quarry/api.ErrSyntax", laid_quarry_api_ErrSyntax), ("quarry/api.ErrTable", laid_quarry_api_ErrTable), ("quarry/api.ErrColumn", laid_quarry_api_ErrColumn), ("quarry/api.ErrTwice", laid_quarry_api_ErrTwice), ("quarry/api.ErrWindow", laid_quarry_api_ErrWindow), ("quarry/api.ErrMany", laid_quarry_api_ErrMany), ("quarry/api.ErrShape", laid_quarry_api_ErrShape)], narrowed := true }
def NamesUptoSaid : Prop := namesUptoRow.holds Tryd.pinned (OpenSpec.upto namesSpec)

/-- 'quarrylaw.News', WHERE WHAT IT READS IS OF BULK AT MOST 1048576: true; the input reads as it did. -/
def newsUptoRow : OpenClaim := { program := "ytfkeddkfegaeiaadoor", sum := "e0b3bb2e5747909650c0accf59acf9b153b300d2e56c2d2dd576193ff2e9e20f", func := "quarry/quarrylaw.News", spec := "news", unfollowed := true, recurses := true, named := ["quarry/api.ErrMany", "quarry/api.ErrSyntax", "quarry/api.ErrTwice", "quarry/api.ErrShape", "quarry/api.ErrLong", "quarry/api.ErrByte", "quarry/api.ErrNumber", "quarry/api.ErrTable", "quarry/api.ErrColumn", "quarry/api.ErrWindow"], apart := false, laid := [("quarry/api.ErrLong", laid_quarry_api_ErrLong), ("quarry/api.ErrByte", laid_quarry_api_ErrByte), ("quarry/api.ErrNumber", laid_quarry_api_ErrNumber), ("quarry/api.ErrSyntax", laid_quarry_api_ErrSyntax), ("quarry/api.ErrTable", laid_quarry_api_ErrTable), ("quarry/api.ErrColumn", laid_quarry_api_ErrColumn), ("quarry/api.ErrTwice", laid_quarry_api_ErrTwice), ("quarry/api.ErrWindow", laid_quarry_api_ErrWindow), ("quarry/api.ErrMany", laid_quarry_api_ErrMany), ("quarry/api.ErrShape", laid_quarry_api_ErrShape)], narrowed := true }
def NewsUptoSaid : Prop := newsUptoRow.holds Tryd.pinned (OpenSpec.upto newsSpec)

end Rows
end Go.Proofs.YtfkeddkfegaeiaaDoor
