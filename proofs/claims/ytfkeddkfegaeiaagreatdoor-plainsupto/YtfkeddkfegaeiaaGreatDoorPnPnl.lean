import Derived.Test.YtfkeddkfegaeiaaGreatDoorPnNwZ
import Derived.Test.YtfkeddkfegaeiaaGreatDoorPnPnf
set_option maxRecDepth 100000
set_option maxHeartbeats 20000000
namespace Go.Proofs.YtfkeddkfegaeiaaGreatDoor
section
open Go.RowKit Go.ChangeShapes Go.WideShapes Go.ChangeAt Go.ChangeMaps _root_.Go.Proofs.Tryz
theorem Cl{W:World}(d:laidMetH prog Rows.plainsUptoRow.laid W): ∃a:Nat->Addr,cJ a W.heap.size W:=by
 have c:=d.filter (fun b=>b.1 != "errors.errorType")
 rw[show Rows.plainsUptoRow.laid.filter (fun b=>b.1 != "errors.errorType")=Rows.namedRow.laid from rfl,MakeChecks.laidMetH_plain _ _ _ (by kernel_rfl)]at c;exact Am c
theorem AZ:laidOutB prog=true:=wi
theorem Ap(a:Os)(args:Array Value):laidMetH prog Rows.plainsUptoRow.laid ((World.doorLaid prog 252 a).forCall (fun _ _=>0) ⟨#[],args,[]⟩).memory:=
 laidMetH_of_parts3 (fuel:=8) (laidMet_of_run' 8 (by kernel_rfl) (by kernel_rfl)) (by kernel_rfl) (by kernel_rfl)
theorem zh(a:Os){H:Type}(enc:TypeId×Value->H): ∃b,DataW.whole enc prog ((World.doorLaid prog 252 a).forCall (fun _ _=>0) ⟨#[], #[.slice none 0 0,.slice none 0 0],[]⟩).memory f6.params.toList Rows.plainsSpec.vars false #[Value.slice none 0 0,.slice none 0 0].toList 8=some ([.nil,.nil],[],b):=
 ⟨[],by kernel_rfl⟩
theorem wD(d:Os)(y:d.Started)(H:Type)(enc:TypeId×Value->H)(F:Stop.Interp):
  ReturnsInHanded {} checked d 6 .any ((Rows.OpenSpec.upto Rows.plainsSpec).preRow enc prog f6 Rows.plainsUptoRow.domain false Rows.plainsUptoRow.laid) (((Rows.OpenSpec.upto Rows.plainsSpec).at F).post enc prog f6 false true false false):=by
 obtain⟨ap,a⟩:=zh d enc
 refine returnsInHanded_of_row (C:=checked) (s:=Rows.OpenSpec.upto Rows.plainsSpec) own y (by kernel_rfl) func6
  (witness_row_atRef (enc:=enc) (C:=checked) false (World.doorLaid prog 252 d) #[.slice none 0 0,.slice none 0 0] rfl (by kernel_rfl) (by kernel_rfl) (by kernel_rfl)
   (OpenSpec.preRow_of_cond 8 a (by kernel_rfl) (fun ar z=>by cases z;kernel_rfl) (by kernel_rfl) (Ap d _))) ?_
 intro c au A B av ax e i _ D _ j _ _;have f:=i;obtain⟨E,ay,G,I,rfl,aA,aI⟩:=i;have k:DataW.TrodAll enc prog c 0 (fun _=>true) true f6.params.toList A.toList B E:=G;rw[params6]at k e;obtain⟨J,K,d0,d1,l,m,rfl,rfl,rfl,L,M⟩:=trodAll_two k;obtain⟨rfl,rfl⟩:=trodVars_none I;have aJ:Rows.uptoBulk d0+Rows.uptoBulk d1<=1048576:=by have N:=Lt (D _ rfl);simp only[JD,Rows.uptoBulkAll]at N;omega
 have O:=Ck j;obtain⟨P,Q⟩:=Cl j;simp only[JD]at f;have n: ∀b∈l++m,b.block<c.heap.size:=fun b a=>f.lt b (by simpa using a);obtain⟨R,o⟩:=L;obtain⟨S,p⟩:=M;obtain⟨T,V,W,X,f1,f2,f3,f4,f5⟩:=Ea o 1048576 (by omega);obtain⟨Y,Z,ac,ad,aL,ae⟩:=An p;obtain⟨q,r,t,rfl⟩:=okWide_slice underlying38 (e 0 38 J rfl rfl);obtain⟨u,v,w,rfl⟩:=okWide_slice underlying39 (e 1 39 K rfl rfl);obtain rfl:T=.slice q r t:=by simpa [Value.cells]using W.symm
 obtain rfl:Y=.slice u v w:=by simpa [Value.cells]using ac.symm
 refine(Cg P c.heap.size _ _ V Z c Q O X ⟨f1,f2,f3,f4,f5⟩ ad (by omega) (fun s aj=>by have:=ae s aj;omega)).mono fun aN x ⟨ak,g⟩=>?_;subst ak
 have al:DataW.Trod enc prog x 0 (fun h=>decide (h<c.heap.size)) true 38 (.slice q r t) d0 l:=
  Below.trod AZ (by kernel_rfl) (Lt (by kernel_rfl)) ⟨R,o⟩ g (fun b a=>n b (J4 _ a))
 have an:DataW.Trod enc prog x 0 (fun h=>decide (h<c.heap.size)) true 39 (.slice u v w) d1 m:=
  Below.trod AZ (by kernel_rfl) (Lt (by kernel_rfl)) ⟨S,p⟩ g (fun b a=>n b (KJ _ a))
 exact⟨_,rfl,_,_,_,[],_,[],f,trodAll_mk1 (shut_bool underlying4 true),trodAll_mk2 al an,rfl,g.frame _,fun ao=>by cases ao⟩
theorem zj:Rows.PlainsUptoSaid:=
 OpenClaim.holds_of_cond 6 f6 rfl rfl rfl rfl rfl rfl rfl ⟨rfl,rfl,rfl,rfl,rfl⟩ rfl rfl rfl rfl rfl (by kernel_rfl) func6 wC
  (Lt (by kernel_rfl)) (by unfold Func.isWrapper;rw[Jn (of_decide_eq_false (by kernel_rfl))];exact⟨rfl,rfl⟩)
  (fun a b H enc _ F=>by rw[OpenClaim.pre_eq_preRow];exact wD a b H enc F)
end
end Go.Proofs.YtfkeddkfegaeiaaGreatDoor
