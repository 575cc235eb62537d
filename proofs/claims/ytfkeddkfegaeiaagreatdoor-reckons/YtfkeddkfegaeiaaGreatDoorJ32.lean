/-
  Part 32.
-/
import Derived.Test.YtfkeddkfegaeiaaGreatDoorRows
import Derived.SevenTiedAt
namespace Go.Proofs.YtfkeddkfegaeiaaGreatDoor
open Go

theorem card_goes {s : OpenSpec} {c : OpenClaim} (kinds : List LaidKind) (har : Bool × String) (g : Bool)
    (hc : c.holds Tryz.pinned s) (hw : c.wfByText s = true) (htie : c.laidByTextAt .later Tryz.pinned kinds true) (hst : c.start = .entering) (hnb : c.noBlocks = false ∧ c.again = false)
    (hm : Tryz.pinned.checked.prog.mainIs = some (har.1, har.2.toList))
    (hl : ∀ f fn, Tryz.pinned.checked.prog.funcNamed c.func = some f → Tryz.pinned.checked.prog.funcs[f]? = some fn → true = Tryz.pinned.checked.prog.looks [] ∧ ∀ (j : Nat) t, fn.params[j]? = some t → Tryz.pinned.checked.prog.wantsStandIn t = false)
    (hg : g = c.goesBy Tryz.pinned.checked.prog) :
    Claim7.holds Tryz.pinned (.plain s) { stood := { row := c, standIns := [], harness := har, looks := true }, kinds := [], alts := [], goes := g, laidByText := true, laidKinds := kinds, laidTests := true, laidLooks := .later } := by
  have h6 : Claim7.isSixth { stood := { row := c, standIns := [], harness := har, looks := true }, kinds := [] } = false := by simp [Claim7.isSixth]
  exact ⟨Claim7.tied_new_at .later kinds true (Claim7.new_of_sixth hc har true hst hnb hm h6 hl) hw, (fun D hD => by cases hD), htie, (fun h => by cases h), hg⟩
end Go.Proofs.YtfkeddkfegaeiaaGreatDoor
