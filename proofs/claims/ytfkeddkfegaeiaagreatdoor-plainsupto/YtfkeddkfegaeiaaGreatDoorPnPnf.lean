import Derived.Test.YtfkeddkfegaeiaaGreatDoorPnAls
import Derived.Test.YtfkeddkfegaeiaaGreatDoorRows
set_option maxRecDepth 100000
set_option maxHeartbeats 20000000
namespace Go.Proofs.YtfkeddkfegaeiaaGreatDoor
section
open _root_.Go.Proofs.Tryz
theorem wi:laidOutB prog=true:=by kernel_rfl
theorem Ed:(Rows.plainsUptoRow.inPlace==prog.inPlace 6)=true:=by kernel_rfl
theorem Ee:(Rows.plainsUptoRow.unfollowed==prog.unfollowed 6)=true:=by kernel_rfl
theorem Ef:(Rows.plainsUptoRow.recurses==prog.recurses 6)=true:=by kernel_rfl
theorem Eg:(Rows.plainsUptoRow.named==prog.varsNamed 6)=true:=by kernel_rfl
theorem wC:joinedFacts prog 6 f6 Rows.plainsSpec Rows.plainsUptoRow=true:=by
 unfold joinedFacts;rw[wi,Ed,Ee,Ef,Eg]
 kernel_rfl
end
end Go.Proofs.YtfkeddkfegaeiaaGreatDoor
