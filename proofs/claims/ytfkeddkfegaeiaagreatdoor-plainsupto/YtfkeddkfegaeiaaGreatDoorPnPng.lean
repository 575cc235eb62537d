import Derived.Test.YtfkeddkfegaeiaaGreatDoorPnAls
import Derived.Test.YtfkeddkfegaeiaaGreatDoorRows
set_option maxRecDepth 100000
set_option maxHeartbeats 20000000
namespace Go.Proofs.YtfkeddkfegaeiaaGreatDoor
section
open _root_.Go.Proofs.Tryz
theorem Eh:Rows.plainsUptoRow.wfByText (Rows.OpenSpec.upto Rows.plainsSpec)=true:=by kernel_rfl
theorem Ei:prog.funcNamed "quarry/quarrylaw.Plains"=some 6:=by kernel_rfl
theorem Ej:true=prog.looks []:=by kernel_rfl
theorem wj:prog.wantsStandIn 38=false/\prog.wantsStandIn 39=false:=⟨by kernel_rfl,by kernel_rfl⟩
theorem Ek:true=Rows.plainsUptoRow.goesBy Tryz.pinned.checked.prog:=by kernel_rfl
end
section
open Go _root_.Go.Proofs.Tryz
theorem El:prog.worded (varsWordLater true)=true:=by kernel_rfl
theorem Em:prog.worded (varsWordLater !true)=false:=by kernel_rfl
theorem En:prog.worded rootWordLater=true:=by kernel_rfl
theorem Eo:Rows.plainsUptoRow.laid.map (fun x=>prog.kindOfLater x.1)=[.data,.data,.data,.handle,.sentinel,.sentinel,.sentinel,.sentinel,.sentinel,.sentinel,.sentinel,.sentinel,.sentinel,.sentinel,.sentinel,.sentinel].map some:=by kernel_rfl
theorem Ep:(prog.funcNamed "gosem.cut.vars").isSome=true:=by kernel_rfl
theorem Es:varsNamedLaterB prog (varsId prog) Rows.plainsUptoRow.laid=true:=by kernel_rfl
theorem Et(a:Os)(b:Tape):doorLeaves prog 259 8 65 Rows.plainsUptoRow.laid a b=some (Rows.plainsUptoRow.laid.filter fun x=>x.2.handleName?.isNone,(funcsListed Rows.plainsUptoRow.laid).map (·.2.funcsOut)):=by kernel_rfl
theorem Eu:prog.headLifts.contains "ownunsafe"=false:=by kernel_rfl
theorem Ev:prog.funcsFit Rows.plainsUptoRow.laid=true:=by kernel_rfl
theorem Cm:Rows.plainsUptoRow.laidByTextAt .later Tryz.pinned [.data,.data,.data,.handle,.sentinel,.sentinel,.sentinel,.sentinel,.sentinel,.sentinel,.sentinel,.sentinel,.sentinel,.sentinel,.sentinel,.sentinel] true:=
 OpenClaim.laidByTextAt_later rfl rfl (Program.laidByTextLater_by_one 259 8 65 El Em En Eo Ep Es Et) Eu Ev
theorem Ew{s:OpenSpec}{c:OpenClaim}(kinds:List LaidKind)(a:Bool×String)(g:Bool)
  (d:c.holds Tryz.pinned s) (e:c.wfByText s=true) (h:c.laidByTextAt .later Tryz.pinned kinds true) (i:c.start=.entering) (k:c.noBlocks=false/\c.again=false)
  (l:Tryz.pinned.checked.prog.mainIs=some (a.1,a.2.toList))
  (m: ∀f b,Tryz.pinned.checked.prog.funcNamed c.func=some f->Tryz.pinned.checked.prog.funcs[f]? =some b->true=Tryz.pinned.checked.prog.looks []/\ ∀(j:Nat) t,b.params[j]? =some t->Tryz.pinned.checked.prog.wantsStandIn t=false)
  (n:g=c.goesBy Tryz.pinned.checked.prog):
  Claim7.holds Tryz.pinned (.plain s) {stood:= {row:=c,standIns:=[],harness:=a,looks:=true},kinds:=[],alts:=[],goes:=g,laidByText:=true,laidKinds:=kinds,laidTests:=true,laidLooks:=.later}:=by
 have o:Claim7.isSixth {stood:= {row:=c,standIns:=[],harness:=a,looks:=true},kinds:=[]}=false:=by simp[Claim7.isSixth]
 exact⟨Claim7.tied_new_at .later kinds true (Claim7.new_of_sixth d a true i k l o m) e,(fun r p=>by cases p),h,(fun q=>by cases q),n⟩
end
end Go.Proofs.YtfkeddkfegaeiaaGreatDoor
