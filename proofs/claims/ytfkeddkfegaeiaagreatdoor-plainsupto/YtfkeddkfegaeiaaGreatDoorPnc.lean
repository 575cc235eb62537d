import Derived.Test.YtfkeddkfegaeiaaGreatDoorCards
import Derived.Test.YtfkeddkfegaeiaaGreatDoorPnPnl
import Derived.Test.YtfkeddkfegaeiaaGreatDoorPnPng
set_option maxRecDepth 100000
set_option maxHeartbeats 20000000
namespace Go.Proofs.YtfkeddkfegaeiaaGreatDoor
section
open Go.RowKit Go.ChangeShapes Go.WideShapes Go.ChangeAt Go.ChangeMaps _root_.Go.Proofs.Tryz
theorem plains_card:Rows.PlainsUptoCardSaid:=
 Ew _ _ _
  zj Eh Cm rfl ⟨rfl,rfl⟩ (by kernel_rfl)
  (fun f c d e=>by
   obtain rfl:f=6:=K8 (Ei.symm.trans d)|>.symm;obtain rfl:c=f6:=(K8 (func6.symm.trans e)).symm
   exact⟨Ej,fun h a b=>by
    rw[params6]at b;have g:a=38∨a=39:=by simpa using Array.mem_of_getElem? b
    rcases g with rfl|rfl
    ·exact wj.1
    ·exact wj.2⟩)
  Ek
#print axioms plains_card
end
end Go.Proofs.YtfkeddkfegaeiaaGreatDoor
