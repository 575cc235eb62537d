import Derived.Test.YtfkeddkfegaeiaaGreatDoorPnRqX
set_option maxRecDepth 100000
set_option maxHeartbeats 20000000
namespace Go.Proofs.YtfkeddkfegaeiaaGreatDoor
section
open Go.RowKit Tryz
theorem RX.setQ{c:Cf}{w:World}{st:St}{x:Xs}{i:Nat}{u:Value}(a:RX c w st x)(q:i<21):RX c (w.setCell ⟨c.qb,i,none⟩ u) st x:=by
 obtain⟨e,f,g,h,j,k,l,m⟩:=RF.query a;obtain⟨n,o,p⟩:=RF.tokens a;have b:=RF.ne a;have d:=RF.low a;refine⟨RF.len a,RF.last a,RF.kinds a,RF.nx a,RF.inx a,RF.cor a,RF.stop a,RF.dp a,b,d,?_,?_,RF.few a,⟨e.setIfInBounds i u,am f _,by simp[g],?_,?_,?_,fh l d.2.1,fh m d.2.1⟩,⟨n,?_,p⟩⟩
 ·have:=RF.top a
  simpa using this
 ·exact(Jp _ _ _ _ (by show c.rb≠c.qb;exact b.1)).trans (RF.reader a)
 ·rw[Jv (by omega)];exact h
 ·rw[Jv (by omega)];exact j
 ·rw[Jv (by omega)];exact k
 ·exact(Jp _ _ _ _ (by show c.tb≠c.qb;exact b.2.2)).trans o
theorem GX.setQ{c:Cf}{d w:World}{f x:Xs}{i:Nat}{u:Value}(a:GX c d f w x)(b:c.kq=false):GX c d f (w.setCell ⟨c.qb,i,none⟩ u) x:=
 ⟨⟨a.fr.os,a.fr.tape,a.fr.output,by simpa using a.fr.size,fun k b h g j l=>(Jp _ _ _ _ (by show k≠c.qb;exact g)).trans (a.fr.block k b h g j l),a.fr.mnew,a.fr.enew,fun e=>(by rw[b]at e;cases e)⟩,a.le,a.few,a.more,a.fewm⟩
def QC(c:Cf)(W:World)(v:Value):Prop:= ∃a:Array Value,W.heap[c.qb]? =some (.cells a 108 (0,0))/\a.size=24/\a[3]? =some v
theorem QC.block{c:Cf}{W W':World}{v:Value}(a:QC c W v)(b:W'.heap[c.qb]? =W.heap[c.qb]?):QC c W' v:=by obtain⟨d,e,f⟩:=a;exact⟨d,b.trans e,f⟩
theorem QC.lt{c:Cf}{W:World}{v:Value}(a:QC c W v):c.qb<W.heap.size:=by obtain⟨d,b,_⟩:=a;exact aa b
theorem QC.keep{c:Cf}{W W':World}{v:Value}(a:QC c W v)(b:Below W.heap.size W W'):QC c W' v:=a.block (b.block _ a.lt)
theorem QC.kp{c:Cf}{W W':World}{v:Value}(a:QC c W v)(b:Kp c.rb W W')(d:c.rb≠c.qb):QC c W' v:=a.block (b.block _ a.lt (Lm d))
theorem QC.set{c:Cf}{W:World}{v:Value}{i:Nat}{u:Value}(a:QC c W v)(b:i≠3):QC c (W.setCell ⟨c.qb,i,none⟩ u) v:=by obtain⟨d,e,f,g⟩:=a;exact⟨d.setIfInBounds i u,am e _,by simp[f],by rw[Jv b];exact g⟩
theorem QC.put{c:Cf}{W:World}{v u:Value}(a:QC c W v):QC c (W.setCell ⟨c.qb,3,none⟩ u) u:=by obtain⟨b,d,e,f⟩:=a;exact⟨b.setIfInBounds 3 u,am d _,by simp[e],by rw[J1 (by omega)]⟩
theorem QC.facts{c:Cf}{W:World}{v:Value}(a:QC c W v):W.cell? ⟨c.qb,3,none⟩=some v/\(∀o,W.frozen? ⟨c.qb,o,none⟩=false)/\c.qb<W.heap.size:=by have d:=a.lt;obtain⟨f,b,g,e⟩:=a;exact⟨by rw[(blk b).1];exact e,(blk b).2,d⟩
theorem RX.qfro{c:Cf}{w:World}{st:St}{x:Xs}(a:RX c w st x):(∀o,w.frozen? ⟨c.qb,o,none⟩=false):=by obtain⟨d,b,_⟩:=RF.query a;exact(blk b).2
theorem RX.qcell{c:Cf}{w:World}{st:St}{x:Xs}(a:RX c w st x)(o:Nat)(e:o<24): ∃v,w.cell? ⟨c.qb,o,none⟩=some v:=by obtain⟨b,d,f,_⟩:=RF.query a;rw[(blk d).1];exact⟨b[o]'(by omega),Mh (by omega)⟩
theorem cS.kpq{c:Cf}{w:World}{T:TypeId}{d:Nat}{W:World}{x:Xs}{v:Value}{n i:Nat}{u:Value}{e:List Value}(a:cS c w T d W x v n e):cS c w T d (W.setCell ⟨c.qb,i,none⟩ u) x v n e:=by have f:=a.row;refine⟨⟨f.1,f.2.imp id ?_⟩,a.off⟩;rintro⟨b,h,j,g,k,l,m⟩;exact⟨b,h,j,g,k,(Jp _ _ _ _ (by show b≠c.qb;exact(a.off b (by rw[g];rfl)).qb)).trans l,m⟩
theorem RX.drew{c:Cf}{w:World}{st:St}{x:Xs}(a:RX c w st x):RX c w.drew st x:=a.keep (Jj _ _).drew
theorem GX.drew{c:Cf}{a w:World}{b x:Xs}(d:GX c a b w x):GX c a b w.drew x:=d.below (Jj _ _).drew
theorem GX.drew0{c:Cf}{a w:World}{b x:Xs}(d:GX c a.drew b w x):GX c a b w x:=(GX.drew (GX.refl c a b)).trans d
theorem QC.drew{c:Cf}{w:World}{v:Value}(a:QC c w v):QC c w.drew v:=a.keep (Jj _ _).drew
theorem GW{c:Cf}{w a W b:World}{st:St}{j x:Xs}{v:Value}{n g cap m:Nat}{T:TypeId}{f:Nat}{p k:List Value}(q:c.kq=false)(r:RX c a st x)(s:GX c w j a x)(l:QC c a v)(t:cS c w T f a x v n p)(d:Below a.heap.size a W)(h:W.grownBy b v.ownBlock)(u:b.ownsRow (w.heap.size+2) T f (.slice (some ⟨g,0,none⟩) m cap) m k)(y:v.ownBlock=some g∨W.heap.size<=g):
  RX c (b.setCell ⟨c.qb,3,none⟩ (.slice (some ⟨g,0,none⟩) m cap)) st x/\GX c w j (b.setCell ⟨c.qb,3,none⟩ (.slice (some ⟨g,0,none⟩) m cap)) x/\QC c (b.setCell ⟨c.qb,3,none⟩ (.slice (some ⟨g,0,none⟩) m cap)) (.slice (some ⟨g,0,none⟩) m cap)/\cS c w T f (b.setCell ⟨c.qb,3,none⟩ (.slice (some ⟨g,0,none⟩) m cap)) x (.slice (some ⟨g,0,none⟩) m cap) m k:=by
 have e:=t.keep d;have o:=r.keep d;have z:=e.row;refine⟨RX.setQ (o.grown h e.off) (by decide),GX.setQ ((s.below d).grown h (fun A i=>by have:=(z.lt A i).1;omega)) q,QC.put ((l.keep d).block (h.block _ (l.keep d).lt (fun i=>(e.off _ i.symm).qb rfl))),cS.kpq (e.grown o u y)⟩
theorem GY(c:Cf)(w:World)(st:St)(x:Xs)(a:ByteArray)(d:RX c w st x):
  Calls prog 112 #[.pointer (some ⟨c.rb,0,none⟩),.string a] w fun e w'=> ∃x':Xs,e=.returned (.tuple #[])/\RX c w' (aH c.ts st [a]) x'/\GX c w x w' x'/\Kp c.rb w w':=by
 refine(iO c w st x.I a x.ms x.mv x.ev x.en d).mono ?_;rintro e w' ⟨rfl,⟨f,g,h⟩,b⟩;exact⟨{x with I:=f},rfl,h,GX.ofKp b g,b⟩
theorem DS(c:Cf)(w:World)(st:St)(x:Xs)(a:ByteArray)(d:RX c w st x):
  Calls prog 67 #[.pointer (some ⟨c.rb,0,none⟩),.string a] w fun e w'=> ∃x':Xs,e=.returned (.bool (az c.ts st [a]))/\RX c w' (b8 c.ts st [a]) x'/\GX c w x w' x'/\Kp c.rb w w':=by
 refine(gV c w st x.I a x.ms x.mv x.ev x.en d).mono ?_;rintro e w' ⟨rfl,⟨f,g,h⟩,b⟩;exact⟨{x with I:=f},rfl,h,GX.ofKp b g,b⟩
theorem AY(c:Cf)(w:World)(st:St)(x:Xs)(k:Nat)(f:RX c w st x)(d:k=2∨k=3):
  Calls prog 111 #[.pointer (some ⟨c.rb,0,none⟩),.int .i64 k] w fun e w'=> ∃(a b:Int) (x':Xs),e=.returned (.agg #[.int .i64 a,.int .i64 b,.string (bP c.ts st k).text])/\RX c w' (cx c.ts st k) x'/\GX c w x w' x'/\Kp c.rb w w':=by
 refine(ql c w st x.I k x.ms x.mv x.ev x.en f d).mono ?_;rintro e w' ⟨⟨a,b,rfl,-⟩,⟨g,h,i⟩,d⟩;exact⟨a,b,{x with I:=g},rfl,i,GX.ofKp d h,d⟩
theorem FD(c:Cf)(w:World)(st:St)(x:Xs)(b:RX c w st x):
  Calls prog 70 #[.pointer (some ⟨c.rb,0,none⟩),.int .i64 9] w fun e w'=> ∃x':Xs,e=.returned (.tuple #[])/\RX c w' (bM c.ts st cB) x'/\GX c w x w' x'/\Kp c.rb w w':=by
 refine(mn c w st x.I x.ms x.mv x.ev x.en b).mono ?_;rintro e w' ⟨rfl,d,a⟩;exact⟨{x with I:=x.I},rfl,d,GX.ofKp a (Ji _),a⟩
structure L4(c:Cf)(w:World)(x0:Xs)(X:List Tk×St)(f:Nat)(W:World)(v:Value)(l:List Tk)(st:St)(x:Xs)(more:Bool):Prop where
 ls:kQ c w x0 (gP c.ts) (many c.ts 6) ⟨#[44]⟩ X f W l st x more
 qc:QC c W v
 own: ∃ys,cS c w 100 3 W x v l.length ys
 cnt:l.length+f=c.ts.length
theorem GZ(c:Cf)(aA:Lw c.ts)(bv:jB c.ts)(bx:wN c.ts)(w:World)(st:St)(x:Xs)(p:Nat)(F:RX c w st x)(dd:st.dp=0)(t:QC c w (.slice none 0 0))(G:c.kq=false):
  Calls prog 68 #[.pointer (some ⟨c.rb,0,none⟩)] w fun e w'=> ∃x':Xs,e=.returned (.tuple #[])/\RX c w' (iy c.ts st p).2 x'/\GX c w x w' x':=by
 obtain⟨df,bz,bA⟩:=Jq.1 yp;simp only[JB]at bA;obtain⟨bF,bG,bJ⟩:=bA;obtain⟨dk,dp,dq,ds⟩:=aP bz bF bG bJ;clear bz bF bG bJ;have dw:=RF.len F;have H:=RF.ne F;have bL:=ab F;have B:=ab aA.last;obtain⟨X,Y,Z,aI⟩:=aP aA bv bx t;have dT:=RF.nx F;obtain⟨⟨hz,i,j,l,m⟩,n,o,⟨t0,t1,t2⟩,q,r,s⟩:=RF.facts F;obtain⟨M,N,_⟩:=t.facts;clear F aA bv bx t i j l m o t0 t1 t2 s;go_enter func68,ntmps68
 go_upto_region 0 with(fail)
 go_cut [] (fun d=> ∃I,RX c d (cx c.ts st 2) I/\GX c w x d I/\QC c d (.slice none 0 0))
 case first=>
  go_region_with (first
   |(go_at_call 111;refine(AY c _ st x 2 (by first|exact U bL|exact bL.keep (Jj _ _).drew) (Or.inl rfl)).mono ?_;rintro e gn ⟨bN,bS,I,rfl,a,b,u⟩;obtain⟨⟨bX,_,_,_,_⟩,_,_,_,b0,b1,_⟩:=RF.facts a;have b2:=a.qfro;obtain⟨gq,gr⟩:=a.qcell 0 (by decide);obtain⟨gs,gt⟩:=a.qcell 1 (by decide);obtain⟨gw,gx⟩:=a.qcell 2 (by decide);have ac:=ab a;have O:=ab b;have b3:=ab u;clear a b u)
   |fail)
  all_goals
   go_wp2_with fail;go_meet
   case rel=>
    refine⟨I,?_,?_,?_⟩
    ·repeat(first|exact U ac|refine RX.setQ ?_ (by decide)|refine RX.drew ?_)
    ·repeat(first|exact U O|exact GX.drew0 O|refine GX.setQ ?_ G|refine GX.drew ?_)
    ·repeat(first|exact aI.kp b3 H.1|exact aI.drew.kp b3 H.1|refine QC.set ?_ (by decide)|refine QC.drew ?_)
 case rest=>
  obtain⟨I,a,b,t⟩:=hcut;obtain⟨ac,O,b4⟩:=aC a b t;have b5:=dx B dT (k:=2) (by decide);have b6:=ab b5;clear a b t aI hz n q r M N b5;go_wp2_with fail;refine(GY c _ (cx c.ts st 2) I ⟨#[40]⟩ (by exact ac)).mono ?_;rintro e d' ⟨ea,rfl,a,b,u⟩;obtain⟨b7,b9,b'⟩:=aC a (O.trans b) (b4.kp u H.1);have aJ:=aM B b6.lt [⟨#[40]⟩];have eb:(aH c.ts (cx c.ts st 2) [⟨#[40]⟩]).dp=0:=(aJ.dp.trans b6.dp).trans dd;have gy:=ab aJ;clear a b u ac O b4 aJ;generalize ca:aH c.ts (cx c.ts st 2) [⟨#[40]⟩]=ad at*;have ed:=ab ca;clear ca
  obtain⟨v,cb⟩: ∃P,Hid (P=dE c.ts (gP c.ts) 6 ad):=⟨_,rfl⟩
  have aL:=ab (kQ.first (gP c.ts) (many c.ts 6) ⟨#[44]⟩ b7 b9 eb (jW (by decide)));rw[show jC c.ts (gP c.ts) (many c.ts 6) ⟨#[44]⟩ c.ts.length [(gP c.ts ad).1] (gP c.ts ad).2=v by rw[U cb];unfold dE;rw[kP]]at aL
  have cc:Hid (L4 c w x v c.ts.length d' (.slice none 0 0) [] ad ea true):=⟨U aL,b',⟨[],cS.nil _ _ _ _ _ _⟩,by simp⟩
  clear aL b7 b9 b';go_wp2_with fail
  go_loopg [2] c.ts.length (fun ef eg wr=> ∃cd f J x' ae,eg=.bool ae/\L4 c w x v ef wr cd f J x' ae)
  case atStart=>exact⟨_,_,_,_,_,rfl,cc⟩
  case round=>
   obtain⟨cd,f,J,aj,ae,rfl,hrel⟩:=hrel;have y:=ab hrel;clear cc
   cases ae with
   |true=>
    obtain⟨gk,rfl⟩:=hrel.ls.pos;have gJ:f.length<=1000:=wO hrel.cnt dw;obtain⟨ce,aN⟩:=hrel.own;obtain⟨aR,aT,ei⟩:=a8 aN.row;subst ei;have cf:=ab aN;obtain⟨⟨hz,i,j,l,m⟩,n,o,⟨t0,t1,t2⟩,q,r,s⟩:=RF.facts hrel.ls.rx;obtain⟨M,N,_⟩:=hrel.qc.facts;have cg:=RF.nx hrel.ls.rx;have gQ:=hrel.ls.dp;clear hrel aN i j l m o t0 t1 t2 s
    obtain⟨g,K⟩: ∃g,Hid (g=many c.ts 6 f.length J):=⟨_,rfl⟩
    have en:g.nx<c.ts.length:=by rw[U K];exact(eh cg 6 f.length).lt
    go_upto_if 23 with(fail)
    go_cut [] (fun d=> ∃E,RX c d g E/\GX c w x d E/\QC c d (.slice aR f.length aT)/\cS c w 100 3 d E (.slice aR f.length aT) f.length ce)
    case first=>
     by_cases aU:f.length=6
     ·have eo:((f.length:Int)==6)=true:=by rw[aU];rfl
      have aV:Hid (g=bM c.ts J cB):=by unfold Hid;rw[U K];unfold many;rw[Jo aU]
      go_wp2_with fail;refine(FD c _ J aj (by exact y.ls.rx)).mono ?_;rintro e gW ⟨E,rfl,a,b,u⟩;obtain⟨ak,Q,al,an⟩:=aP a (y.ls.gx.trans b) (cf.step b) (y.qc.kp u H.1);clear a b u;go_wp2_with fail;go_meet
      case rel=>rw[U aV];exact⟨E,ak,Q,an,al⟩
     ·have eo:((f.length:Int)==6)=false:=by simp only[Kb,ne_eq];omega
      have aV:Hid (g=J):=by unfold Hid;rw[U K];exact jW aU
      go_wp2_with fail;go_meet
      case rel=>rw[U aV];exact⟨aj,y.ls.rx,y.ls.gx,y.qc,cf⟩
    case rest=>
     obtain⟨E,a,b,t,R⟩:=hcut;obtain⟨ak,Q,an,al⟩:=aP a b t R;clear a b t R hz n q r M N;go_wp2_with fail;refine(AY c _ g E 2 (by exact ak) (Or.inl rfl)).mono ?_;rintro e ep ⟨bN,bS,ao,rfl,a,b,u⟩;obtain⟨a0,ch,ap,ar⟩:=aP a (Q.trans b) (an.kp u H.1) (al.step b);obtain⟨⟨hz,i,j,l,m⟩,n,o,⟨t0,t1,t2⟩,q,r,s⟩:=RF.facts a;have g0:=Q.size;have g1:=b.size;clear a b u ak Q an al i j l m o t0 t1 t2 s;generalize ci:(bP c.ts g 2).text=eq at*;have g2:=ab ci;clear ci;obtain⟨M,N,_⟩:=ap.facts;have cj:=ar.row;have cl:=ab cj;clear cj;obtain⟨g3,cp,er,g4⟩:=U ap;obtain⟨cq,cr⟩:=ag cp (RF.reader a0);have a1:=ab ar.off;clear cp er
     go_upto_region 7 with(fail)
     go_cut [] (fun d=> ∃a2 cs,RX c d (cx c.ts g 2) ao/\GX c w x d ao/\QC c d a2/\cS c w 100 3 d ao a2 (f.length+1) cs)
     case first=>
      go_region_law (first
       |(refine KE _ rfl (.tmp 38) (.tmp 40) 101 rfl (w.heap.size+2) 100 df (.agg #[.int .i64 0,.int .i64 0,.string ⟨#[]⟩]) 3 32 underlying101 dk dp dq ds rfl (by decide) (.slice aR f.length aT) f.length ce (by simp[Act.eval]) ((cl.alloc _).alloc _) ⟨ep.heap.size+1,0,none⟩ 1 1 [.int .i64 bN,.int .i64 bS,.string eq] (by simp[Act.eval]) rfl (cQ (by first|rfl|simp)) (yr _ _ _) (by decide) (by unfold maxLen;omega) (by omega) (by simp;omega) _ rfl ?_;intro g6 g7 au ct b cu _;have cv:=ab ((b.block c.qb (by simp;omega) (fun a3=>(a1 _ a3.symm).qb rfl)).trans (ai (ai cq)));obtain⟨g8,f11⟩:=blk cv;have g9:=aa cv;have cz:=ab ((b.block c.rb (by simp;omega) (fun a3=>(a1 _ a3.symm).rb rfl)).trans (ai (ai cr)));obtain⟨g',f12⟩:=blk cz;have ha:=aa cz;have es:=ab ct;have S:=ab b;have et:=ab cu;clear ct b cu)
       |fail)
      all_goals
       go_wp2_with fail;go_meet
       case rel=>exact⟨_,_,GW G a0 ch ap ar (by repeat(first|exact Jj _ _|apply JI|refine JY ?_ (by first|exact Ji _|(simp;done)|(simp;omega)) _)) S es (et.imp id (fun e=>by rw[e];first|exact Ji _|(simp;done)|(simp;omega)))⟩
     case rest=>
      obtain⟨a2,cs,a,b,t,R⟩:=hcut;obtain⟨cF,cI,cL,cN⟩:=aP a b t R;clear a b t R hz n q r M N a0 ch ap ar cl cq cr a1;go_wp2_with fail;refine(DS c _ (cx c.ts g 2) ao ⟨#[44]⟩ (by exact cF)).mono ?_;rintro e hb ⟨ex,rfl,cR,a4,cT⟩;obtain⟨ez,eN,eR,eT⟩:=aP cR (cI.trans a4) (cL.kp cT H.1) (cN.step a4);clear cR a4 cT cF cI cL cN;go_wp2;go_roundg gk
      case measure=>simp
      case rel=>
       refine⟨_,f++[(gP c.ts g).1],b8 c.ts (gP c.ts g).2 [⟨#[44]⟩],ex,az c.ts (gP c.ts g).2 [⟨#[44]⟩],rfl,⟨?_,eR,by rw[Jk];exact⟨_,eT⟩,by rw[Jk];have:=y.cnt;simp;omega⟩⟩;refine y.ls.round K ?_ ?_ (mO B g en) eN ez
       ·rw[U K];exact oF
       ·rw[U K];exact uO cg
   |false=>
    have a5:=hrel.ls.done;have a9:Hid (RX c wr v.2 aj):=by unfold Hid;rw[a5];exact hrel.ls.rx
    have eX:v.2.dp=0:=by rw[a5];exact hrel.ls.dp
    have cV:=ab hrel.ls.gx;clear a5 hrel y;have a':=ab (aM B (RF.nx a9) [⟨#[41]⟩]);go_wp2_with fail;refine(eJ c _ v.2 aj ⟨#[41]⟩ (by exact a9)).mono ?_;rintro e hc ⟨e0,rfl,a,b⟩;obtain⟨cW,cZ⟩:=ag a (cV.trans b);clear a b a9 cV;have ba:=ab (aM B a'.lt [⟨#[97,115]⟩]);go_wp2_with fail;refine(eJ c _ _ e0 ⟨#[97,115]⟩ (by exact cW)).mono ?_;rintro e hd ⟨e1,rfl,a,b⟩;obtain⟨c0,c1⟩:=ag a (cZ.trans b);clear a b cW cZ;have c2:=ab (aM B ba.lt [⟨#[40]⟩]);go_wp2_with fail;refine(eJ c _ _ e1 ⟨#[40]⟩ (by exact c0)).mono ?_;rintro e au ⟨bb,rfl,a,b⟩;have T:Hid (RX c au (jn c.ts v.2) bb):=a;have S:=ab (c1.trans b);have bc:(jn c.ts v.2).dp=0:=((c2.dp.trans ba.dp).trans a'.dp).trans eX;clear a b c0 c1 a' ba c2;generalize c3:jn c.ts v.2=be at*;have e2:=ab c3;clear c3
    obtain⟨L,av⟩: ∃P,Hid (P=fJ c.ts be):=⟨_,rfl⟩
    have bg:=ab (ja c X Y Z au be bb T bc);rw[<-U av]at bg;have bk:=ab (ja c X Y Z au.drew be bb T.drew bc);rw[<-U av]at bk;have bl:=ab (gz B (RF.nx T));rw[<-U av]at bl;obtain⟨⟨hz,i,j,l,m⟩,n,o,⟨t0,t1,t2⟩,q,r,s⟩:=RF.facts T;clear i j l m o t0 t1 t2 s
    go_upto_region 12 with(fail)
    go_cut [] (fun d=> ∃z,RX c d L.2 z/\GX c w x d z)
    case first=>
     go_region_with (first
      |(go_at_call 69;first|refine bg.mono ?_|refine bk.mono ?_;rintro e he ⟨e3,e4,e5,e6,e7,e8,e9,e',fa,fb,fc,z,-,-,-,-,rfl,a,b,-⟩;obtain⟨⟨bX,_,_,_,_⟩,_,_,_,b0,b1,_⟩:=RF.facts a;have b2:=a.qfro;obtain⟨fe,fg⟩:=a.qcell 4 (by decide);obtain⟨fk,fl⟩:=a.qcell 5 (by decide);obtain⟨fn,fo⟩:=a.qcell 6 (by decide);obtain⟨fp,fq⟩:=a.qcell 7 (by decide);obtain⟨fr,fs⟩:=a.qcell 8 (by decide);have C:=ab a;have V:=ab b;clear a b)
      |fail)
     all_goals
      go_wp2_with fail;go_meet
      case rel=>
       refine⟨z,?_,?_⟩
       ·repeat(first|exact U C|refine RX.setQ ?_ (by decide)|refine RX.drew ?_)
       ·repeat(first|exact S.trans V|exact S.trans (GX.drew0 V)|refine GX.setQ ?_ G|refine GX.drew ?_)
    case rest=>
     obtain⟨z,a,b⟩:=hcut;obtain⟨C,V⟩:=ag a b;clear a b hz n q r T S bg bk;obtain⟨⟨hz,i,j,l,m⟩,n,o,⟨t0,t1,t2⟩,q,r,s⟩:=RF.facts C;have ft:=RF.inx C;have fv:=C.qfro;obtain⟨hf,fw⟩:=C.qcell 19 (by decide);generalize bn:(ah c.ts z.I).place=hg at*;clear bn;clear j l m t0 t2
     go_upto_region 13 with(fail)
     go_cut [] (fun d=>RX c d L.2 z/\GX c w x d z)
     case first=>
      go_region
      all_goals
       go_wp2_with fail;go_meet
       case rel=>
        refine⟨?_,?_⟩
        ·repeat(first|exact U C|refine RX.setQ ?_ (by decide)|refine RX.drew ?_)
        ·repeat(first|exact U V|refine GX.setQ ?_ G|refine GX.drew ?_)
     case rest=>
      obtain⟨a,b⟩:=hcut;obtain⟨c4,c5⟩:=ag a b;clear a b hz i n o t1 q r s ft fv fw C V;have fx:=ab (aM B bl.lt [⟨#[117,110,105,111,110]⟩]);go_wp2_with fail;refine(eJ c _ L.2 z ⟨#[117,110,105,111,110]⟩ (by exact c4)).mono ?_;rintro e c6 ⟨c7,rfl,a,b⟩;obtain⟨ax,bq⟩:=ag a (c5.trans b);have c8:(aH c.ts L.2 [⟨#[117,110,105,111,110]⟩]).dp=0:=(fx.dp.trans bl.dp).trans bc;clear a b c4 c5;generalize c9:aH c.ts L.2 [⟨#[117,110,105,111,110]⟩]=br at*;have fy:=ab c9;clear c9
      obtain⟨ay,bs⟩: ∃P,Hid (P=fJ c.ts br):=⟨_,rfl⟩
      have bt:=ab (ja c X Y Z c6 br c7 ax c8);rw[<-U bs]at bt;have bu:=ab (ja c X Y Z c6.drew br c7 ax.drew c8);rw[<-U bs]at bu;obtain⟨⟨hz,i,j,l,m⟩,n,o,⟨t0,t1,t2⟩,q,r,s⟩:=RF.facts ax;clear i j l m o t0 t1 t2 s
      go_upto_region 15 with(fail)
      go_cut [] (fun d=> ∃A,RX c d ay.2 A/\GX c w x d A)
      case first=>
       go_region_with (first
        |(go_at_call 69;first|refine bt.mono ?_|refine bu.mono ?_;rintro e hh ⟨e3,e4,e5,e6,e7,e8,e9,e',fa,fb,fc,A,-,-,-,-,rfl,a,b,-⟩;obtain⟨⟨bX,_,_,_,_⟩,_,_,_,b0,b1,_⟩:=RF.facts a;have b2:=a.qfro;obtain⟨fe,fg⟩:=a.qcell 9 (by decide);obtain⟨fk,fl⟩:=a.qcell 10 (by decide);obtain⟨fn,fo⟩:=a.qcell 11 (by decide);obtain⟨fp,fq⟩:=a.qcell 12 (by decide);obtain⟨fr,fs⟩:=a.qcell 13 (by decide);have D:=ab a;have W:=ab b;clear a b)
        |fail)
       all_goals
        go_wp2_with fail;go_meet
        case rel=>
         refine⟨A,?_,?_⟩
         ·repeat(first|exact U D|refine RX.setQ ?_ (by decide)|refine RX.drew ?_)
         ·repeat(first|exact bq.trans W|exact bq.trans (GX.drew0 W)|refine GX.setQ ?_ G|refine GX.drew ?_)
      case rest=>
       obtain⟨A,a,b⟩:=hcut;obtain⟨D,W⟩:=ag a b;clear a b hz n q r ax bq bt bu;obtain⟨⟨hz,i,j,l,m⟩,n,o,⟨t0,t1,t2⟩,q,r,s⟩:=RF.facts D;have fz:=RF.inx D;have fO:=D.qfro;obtain⟨hi,f'⟩:=D.qcell 20 (by decide);generalize bn:(ah c.ts A.I).place=hj at*;clear bn;clear j l m t0 t2
       go_upto_region 16 with(fail)
       go_cut [] (fun d=>RX c d ay.2 A/\GX c w x d A)
       case first=>
        go_region
        all_goals
         go_wp2_with fail;go_meet
         case rel=>
          refine⟨?_,?_⟩
          ·repeat(first|exact U D|refine RX.setQ ?_ (by decide)|refine RX.drew ?_)
          ·repeat(first|exact U W|refine GX.setQ ?_ G|refine GX.drew ?_)
       case rest=>
        obtain⟨a,b⟩:=hcut;obtain⟨ga,gb⟩:=ag a b;clear a b hz i n o t1 q r s fz fO f' D W;go_wp2_with fail;refine(eJ c _ ay.2 A ⟨#[41]⟩ (by exact ga)).mono ?_;rintro e gc ⟨c',rfl,a,b⟩;obtain⟨gf,gg⟩:=ag a (gb.trans b);clear a b;go_wp2;go_end0;have gi:v=gA c.ts st:=by rw[U cb,<-U ed];rfl
        have gl:L=oj c.ts st:=by rw[U av,<-U e2,gi];rfl
        have gm:ay=sH c.ts (oj c.ts st).2:=by rw[U bs,<-U fy,gl];rfl
        refine⟨c',rfl,?_,gg⟩
        show RX c gc (aH c.ts (sH c.ts (oj c.ts st).2).2 [⟨#[41]⟩]) c'
        rw[<-gm];exact gf
theorem gB.kinds{s:ByteArray}{i:Nat}{ts l:List Tk}(a:gB s i ts l)(j:Nat):(ah ts j).kind<=3:=by
 by_cases b:j<l.length
 ·have c:ah ts j∈l:=by rw[a.eq];exact iI b
  rcases a.tok _ c with⟨_,_,_,hk,_⟩|⟨_,_,_,_,hk,_⟩|⟨_,_,_,hk⟩|⟨_,hk,_⟩<;>omega
 ·by_cases d:j=l.length
  ·rw[a.eq,d,lg];show(0:Nat)<=3;omega
  ·rw[nG (by have:=a.len;omega)];show(0:Nat)<=3;omega
theorem gB.tokAt{s:ByteArray}{i:Nat}{ts l:List Tk}(a:gB s i ts l){j:Nat}(c:(ah ts j).kind≠0):wJ (ah ts j)/\ah ts j∈l:=by
 by_cases d:j<l.length
 ·have b:ah ts j∈l:=by rw[a.eq];exact iI d
  exact⟨a.tok _ b,b⟩
 ·exfalso
  apply c;by_cases e:j=l.length
  ·rw[a.eq,e,lg];rfl
  ·rw[nG (by have:=a.len;omega)];rfl
theorem tV: ∀(l:List Tk) (t:Tk),t∈l->t.text.size<=(l.map fun t=>t.text.size).sum
 |a::r,t,b=>by
  rw[Mz,List.sum_cons];rcases JG.1 b with rfl|b
  ·omega
  ·have:=tV r t b;omega
theorem gB.num{s:ByteArray}{i:Nat}{ts l:List Tk}(b:gB s i ts l)(m:s.size<=1000):jB ts:=fun j f=>by
 obtain⟨c,g⟩:=b.tokAt (j:=j) (by rw[f];decide);refine⟨?_,?_,?_⟩
 ·rcases c with⟨_,_,_,hk',_⟩|⟨_,_,_,_,hk',_⟩|⟨_,a,_,_⟩|⟨_,hk',_⟩
  ·omega
  ·omega
  ·exact a
  ·omega
 ·have d:=tV l _ g;have a:=b.sum;omega
 ·rcases c with⟨_,_,_,hk',_⟩|⟨_,_,_,_,hk',_⟩|⟨d,a,h3,_⟩|⟨_,hk',_⟩
  ·omega
  ·omega
  ·rw[pW a d]at h3
   cases e:dX 0 (ah ts j).text.data.toList with
   |none=>rw[e]at h3;cases h3
   |some h=>
    rw[e]at h3;have k:(h:Int)=(ah ts j).value:=by simpa using h3
    exact k.symm
  ·omega
theorem gB.cmp{s:ByteArray}{i:Nat}{ts l:List Tk}(b:gB s i ts l):wN ts:=fun a c=>by
 rw[J2]at c;have d:(ah ts a).text.data.toList.headD 0=60∨(ah ts a).text.data.toList.headD 0=61∨(ah ts a).text.data.toList.headD 0=62:=by unfold eH at c;simp only[JG,JO,Kg]at c;rcases c with e|e|e|e|e|e<;>(rw[e];decide)
 by_cases h:(ah ts a).kind=0
 ·exfalso
  have m:(ah ts a).text=⟨#[]⟩:=by
   by_cases n:a<l.length
   ·have o:ah ts a∈l:=by rw[b.eq];exact iI n
    exact((b.all _ o).1 h).elim
   ·by_cases f:a=l.length
    ·rw[b.eq,f,lg];rfl
    ·rw[nG (by have:=b.len;omega)];rfl
  rw[m]at d
  revert d
  decide
 ·obtain⟨p,_⟩:=b.tokAt h
  have j: ∀(g:Int->Bool),(∀k,k∈(ah ts a).text.data.toList->g k.toNat=true)->(ah ts a).text.data.toList≠ []->g ((ah ts a).text.data.toList.headD 0).toNat=true:=fun g q r=>by
   cases f:(ah ts a).text.data.toList with
   |nil=>exact(r f).elim
   |cons t u=>exact q t (by rw[f];exact JK)
  rcases p with⟨_,_,_,hk',_⟩|⟨h1,h2,_,_,_,_⟩|⟨h1,h2,_,_⟩|⟨_,hk',_⟩
  ·exact hk'
  ·have:=j aq h2 h1;rcases d with e|e|e<;>(rw[e]at this;exact absurd this (by decide))
  ·have:=j aG h2 h1;rcases d with e|e|e<;>(rw[e]at this;exact absurd this (by decide))
  ·exact hk'
structure PS(c:Cf)(n:Nat)(W3:World)(hn:Prop)(sl:dP)(W:World)(x:Xs)(er:Option (Nat×Nat)):Prop where
 bel:Below (n+1) W3 W
 off:iR c x n
 ok:er=none->hn->tL W n c.qb sl
theorem PS.drew{c:Cf}{n:Nat}{b:World}{hn:Prop}{sl:dP}{W:World}{x:Xs}{er:Option (Nat×Nat)}(a:PS c n b hn sl W x er):PS c n b hn sl W.drew x er:=
 ⟨a.bel.drew,a.off,fun d e=>(a.ok d e).keep (Jj _ _).drew⟩
theorem PS.put{c:Cf}{n:Nat}{z q r:World}{e:Xs}{st:St}{hn:Prop}{sl:dP}{f g h j:Option Addr}{b k a l m d o:Nat}{v:List RI}{w x:List RT}{rs:List RP}{er:Option (Nat×Nat)}(A:RX c r st e)(y:R3 c q r e (.slice f b k) b v (.slice g a l) (.slice h a m) a w x)(H:cS c q 273 3 r e (.slice j d o) d (gF rs))
  (I:Below (n+1) z r) (J:iR c e n) (W:n<c.qb) (X:n<=q.heap.size) (K:n<=c.lo) (L:hn->r.cell? ⟨c.qb,2,none⟩=some (.string ⟨#[]⟩)) (M:er=none->qn e.en v w x rs sl):
  PS c n z hn sl (((((r.setCell ⟨c.qb,14,none⟩ (.slice f b k)).setCell ⟨c.qb,15,none⟩ (.slice g a l)).setCell ⟨c.qb,16,none⟩ (.slice h a m)).setCell ⟨c.qb,17,none⟩ (.slice j d o)).setCell ⟨c.qb,18,none⟩ (.bool true)) e er:=by
 refine⟨((((I.setCell (by show n+1<=c.qb;omega) _).setCell (by show n+1<=c.qb;omega) _).setCell (by show n+1<=c.qb;omega) _).setCell (by show n+1<=c.qb;omega) _).setCell (by show n+1<=c.qb;omega) _,J,fun N O=>?_⟩;obtain⟨Y,B,s,Z,ac,P,ad,Q⟩:=RF.query A;have t:=RF.low A;have p:=am (am (am (am (am B (.slice f b k) (off:=14)) (.slice g a l) (off:=15)) (.slice h a m) (off:=16)) (.slice j d o) (off:=17)) (.bool true) (off:=18);have C:=L O;rw[(blk B).1]at C;have D:=(((((cS.kpq (i:=14) (u:=.slice f b k) y.oi).kpq (i:=15) (u:=.slice g a l)).kpq (i:=16) (u:=.slice h a m)).kpq (i:=17) (u:=.slice j d o)).kpq (i:=18) (u:=.bool true)).row;have E:=(((((cS.kpq (i:=14) (u:=.slice f b k) y.ot).kpq (i:=15) (u:=.slice g a l)).kpq (i:=16) (u:=.slice h a m)).kpq (i:=17) (u:=.slice j d o)).kpq (i:=18) (u:=.bool true)).row;have F:=(((((cS.kpq (i:=14) (u:=.slice f b k) y.on).kpq (i:=15) (u:=.slice g a l)).kpq (i:=16) (u:=.slice h a m)).kpq (i:=17) (u:=.slice j d o)).kpq (i:=18) (u:=.bool true)).row;have G:=(((((cS.kpq (i:=14) (u:=.slice f b k) H).kpq (i:=15) (u:=.slice g a l)).kpq (i:=16) (u:=.slice h a m)).kpq (i:=17) (u:=.slice j d o)).kpq (i:=18) (u:=.bool true)).row;have R:b=v.length:=by have:=D.1;rw[Af]at this;omega
 have S:a=w.length:=by have:=E.1;rw[rG]at this;omega
 have T:a=x.length:=by have:=F.1;rw[rG]at this;omega
 have V:d=rs.length:=by have:=G.1;rw[Ag]at this;omega
 refine⟨e.en,v,w,x,rs,.slice f b k,.slice g a l,.slice h a m,.slice j d o,e.ev,⟨?_,?_,?_,?_,?_,?_,?_,aa p,?_,?_,?_,?_,?_⟩,M N⟩
 ·rw[(blk p).1,Jv (by decide),Jv (by decide),Jv (by decide),Jv (by decide),Jv (by decide)];exact C
 ·rw[(blk p).1,Jv (by decide),Jv (by decide),Jv (by decide),Jv (by decide),J1 (by simp[s])]
 ·rw[(blk p).1,Jv (by decide),Jv (by decide),Jv (by decide),J1 (by simp[s])]
 ·rw[(blk p).1,Jv (by decide),Jv (by decide),J1 (by simp[s])]
 ·rw[(blk p).1,Jv (by decide),J1 (by simp[s])]
 ·rw[(blk p).1,J1 (by simp[s])]
 ·rw[(blk p).1,Jv (by decide),Jv (by decide),Jv (by decide),Jv (by decide),Jv (by decide)];exact P
 ·exact oH (fh (fh (fh (fh (fh Q t.2.1) t.2.1) t.2.1) t.2.1) t.2.1) K
 ·have:=oH D (show n<=q.heap.size+2 by omega);rwa[<-R]
 ·have:=oH E (show n<=q.heap.size+2 by omega);rwa[<-S]
 ·have:=oH F (show n<=q.heap.size+2 by omega);rwa[<-T]
 ·have:=oH G (show n<=q.heap.size+2 by omega);rwa[<-V]
def nS(w:World)(R:Except (Nat×Nat) cH)(e:Ending)(w':World):Prop:=Below w.heap.size w w'/\match R with
 |.error (p,k)=>e=.returned (.tuple #[.pointer none,.agg #[.int .i64 (fA k),.int .i64 p]])
 |.ok x=> ∃a,e=.returned (.tuple #[.pointer (some ⟨a,0,none⟩),.agg #[.int .i64 0,.int .i64 0]])/\w.heap.size<=a/\(x.wth=none->tL w' w.heap.size a x.main)
theorem BZ(s:ByteArray)(w:World)(a:1000<s.size):
  Calls prog 39 #[.string s] w fun e w'=>e=.returned (.tuple #[.pointer none,.agg #[.int .i64 1,.int .i64 (-1)]])/\Below w.heap.size w w':=by
 have b:decide ((1000:Int)<(s.size:Int))=true:=by simp;omega
 go_enter func39,ntmps39;go_wp2;refine Jr (v:=.tuple #[.pointer none,.agg #[.int .i64 1,.int .i64 (-1)]]) (by simp[results,results39,go_sem]) rfl ⟨rfl,?_⟩;exact(Jj _ _).alloc (Ji _) _
theorem B4(s:ByteArray)(w:World)(j:s.size<=1000)(p k:Nat)(l:fH s=.error (p,k)):
  Calls prog 39 #[.string s] w fun e w'=>nS w (.error (p,k)) e w':=by
 have u:decide ((1000:Int)<(s.size:Int))=false:=by simp;omega
 have x:(fA k !=0)=true:=by simp only[KZ,ne_eq];exact qN
 obtain⟨a,c⟩: ∃a,Hid (a=fH s):=⟨_,rfl⟩
 have m:a=.error (p,k):=c.trans l;generalize d:fA k=n at*;have f:=ab d;clear d;go_enter func39,ntmps39;go_wp2_with fail;refine(tI s _ j a c).mono ?_;rintro e o g;rw[m]at g;obtain⟨b,rfl⟩:=g;rw[U f];have hz:=ab ((b.block w.heap.size (by simp)).trans (af rfl));obtain⟨q,y⟩:=blk hz;have r:=aa hz;have i:Hid (Below w.heap.size w o):=((Jj _ _).alloc (Ji _) _).trans (b.mono (by simp));have t:=i.size;clear b;go_wp2
 go_region
 go_wp2;refine Jr (v:=.tuple #[.pointer none,.agg #[.int .i64 n,.int .i64 p]]) (by simp[results,results39,go_sem,q,r]) rfl ⟨?_,by show Ending.returned _=Ending.returned (.tuple #[.pointer none,.agg #[.int .i64 (fA k),.int .i64 p]]);rw[U f]⟩
 repeat(first|exact U i|apply JI|refine J0 ?_ (by exact Ji _) _|refine JY ?_ (by first|exact t|(simp;omega)) _)
theorem FE(c:Bool){a:World}{g cap:Nat}{ts:List Tk}{d:Array Value}(e:a.heap[g]? =some (.cells d 100 (0,0)))(h:d.toList.take (ts.length*3)=fd ts)(j:ts.length<=1001)(l:cO ts)(m: ∀i,(ah ts i).kind<=3)(f:0<ts.length):
  RX ⟨a.heap.size+1+1,a.heap.size+1,g,cap,a.heap.size+1+1+1,ts,c⟩ (((a.alloc (.cells #[.int .i64 0,.int .i64 0] 27)).alloc (.cells #[.int .i64 0,.int .i64 0,.string ⟨#[]⟩,.slice none 0 0,.slice none 0 0,.slice none 0 0,.slice none 0 0,.slice none 0 0,.bool false,.slice none 0 0,.slice none 0 0,.slice none 0 0,.slice none 0 0,.bool false,.slice none 0 0,.slice none 0 0,.slice none 0 0,.slice none 0 0,.bool false,.int .i64 0,.int .i64 0,.slice none 0 0,.slice none 0 0,.slice (some ⟨g,0,none⟩) ts.length cap] 108)).alloc (.cells #[.pointer (some ⟨a.heap.size+1,0,none⟩),.int .i64 0,.int .i64 0,.int .i64 0,.int .i64 0] 188)) bR ⟨0,[],.slice none 0 0,.slice none 0 0,[]⟩/\QC ⟨a.heap.size+1+1,a.heap.size+1,g,cap,a.heap.size+1+1+1,ts,c⟩ (((a.alloc (.cells #[.int .i64 0,.int .i64 0] 27)).alloc (.cells #[.int .i64 0,.int .i64 0,.string ⟨#[]⟩,.slice none 0 0,.slice none 0 0,.slice none 0 0,.slice none 0 0,.slice none 0 0,.bool false,.slice none 0 0,.slice none 0 0,.slice none 0 0,.slice none 0 0,.bool false,.slice none 0 0,.slice none 0 0,.slice none 0 0,.slice none 0 0,.bool false,.int .i64 0,.int .i64 0,.slice none 0 0,.slice none 0 0,.slice (some ⟨g,0,none⟩) ts.length cap] 108)).alloc (.cells #[.pointer (some ⟨a.heap.size+1,0,none⟩),.int .i64 0,.int .i64 0,.int .i64 0,.int .i64 0] 188)) (.slice none 0 0)/\ ∀k,k<a.heap.size->k≠g->iR ⟨a.heap.size+1+1,a.heap.size+1,g,cap,a.heap.size+1+1+1,ts,c⟩ ⟨0,[],.slice none 0 0,.slice none 0 0,[]⟩ k:=by
 have o:=aa e;refine⟨⟨j,l,m,f,f,fun _=>rfl,fun b=>(b rfl).elim,by decide,⟨?_,?_,?_⟩,⟨?_,?_,?_⟩,?_,af (by simp),⟨Ji _,Ji _⟩,⟨_,ai (af (by simp)),rfl,rfl,rfl,rfl,JF _ _ _ _,JF _ _ _ _⟩,⟨d,ai (ai (ai e)),h⟩⟩,⟨_,ai (af (by simp)),rfl,rfl⟩,fun k p n=>⟨?_,?_,n,(fun b=>by cases b),(fun b=>by cases b)⟩⟩
 ·show a.heap.size+1+1≠a.heap.size+1;omega
 ·show g≠a.heap.size+1+1;omega
 ·show g≠a.heap.size+1;omega
 ·show a.heap.size+1+1<a.heap.size+1+1+1;omega
 ·show a.heap.size+1<a.heap.size+1+1+1;omega
 ·show g<a.heap.size+1+1+1;omega
 ·show a.heap.size+1+1+1<=_;simp
 ·show k≠a.heap.size+1+1;omega
 ·show k≠a.heap.size+1;omega
theorem FF{c:Cf}{w w':World}{x x':Xs}{n:Nat}(a:GX c w x w' x')(b: ∀k,k<n->iR c x k)(hn:n<=w.heap.size):Below n w w':=
 ⟨a.fr.os,a.fr.tape,a.fr.output,a.fr.size,fun k d=>a.block (by omega) (b k d)⟩
theorem Im{c:Cf}{w:World}{st:St}{x:Xs}(a:RX c w st x):((((dh (ah c.ts x.I):Nat):Int) !=5)=true->bM c.ts st bE=gR c.ts st)/\((((dh (ah c.ts x.I):Nat):Int) !=5)=false->st=gR c.ts st):=by
 by_cases f:st.er=none
 ·rw[RF.cor a f];have i:=RF.kinds a st.nx;unfold gR;by_cases d:(ah c.ts st.nx).kind=0
  ·rw[Jo d];refine⟨fun b=>?_,fun _=>rfl⟩;have:dh (ah c.ts st.nx)=5:=by unfold dh;rw[d];rfl
   rw[this]at b;cases b
  ·rw[Jn d];refine⟨fun _=>rfl,fun b=>?_⟩
   exfalso
   have e:dh (ah c.ts st.nx)=5:=by simp only[bne_eq_false_iff_eq]at b;omega
   unfold dh at e;split at e
   ·split at e<;>omega
   ·omega
 ·have g:=RF.stopped a f;have h:gR c.ts st=st:=by unfold gR;rw[Jo (kN (RF.last a) g)]
  rw[h];exact⟨fun _=>iQ g _,fun _=>rfl⟩
theorem B5(s:ByteArray)(w:World)(aR:s.size<=1000)(ts:List Tk)(aT:fH s=.ok ts):
  Calls prog 39 #[.string s] w fun e w'=>nS w (jy ts) e w':=by
 have cL:decide ((1000:Int)<(s.size:Int))=false:=by simp;omega
 obtain⟨K,V⟩: ∃K,Hid (K=fH s):=⟨_,rfl⟩
 have aU:K=.ok ts:=V.trans aT;obtain⟨cN,L⟩:=jo aT;have x:=ab L;have aV:=L.pos;have b5:ts.length<=1001:=by have:=L.len;omega
 clear L;go_enter func39,ntmps39;go_wp2_with fail;refine(tI s _ aR K V).mono ?_;rintro e d a0;rw[aU]at a0;obtain⟨q,v,rfl,a1⟩:=a0;rcases a1.2 with⟨_,h0⟩|⟨o,cap,cur,hv,hg0,c,a2,a3,a4,W⟩
 ·omega
 subst hv;have b6:w.heap.size+1<=o:=by simpa using hg0
 obtain⟨y,Y⟩: ∃y:Bool,y= !az ts bR [⟨#[119,105,116,104]⟩]:=⟨_,rfl⟩
 obtain⟨a5,a9,a'⟩:=FE y c W b5 x.last x.kinds aV (cap:=cap);have b7:Hid ((((d.alloc (.cells #[.int .i64 0,.int .i64 0] 27)).alloc (.cells #[.int .i64 0,.int .i64 0,.string ⟨#[]⟩,.slice none 0 0,.slice none 0 0,.slice none 0 0,.slice none 0 0,.slice none 0 0,.bool false,.slice none 0 0,.slice none 0 0,.slice none 0 0,.slice none 0 0,.bool false,.slice none 0 0,.slice none 0 0,.slice none 0 0,.slice none 0 0,.bool false,.int .i64 0,.int .i64 0,.slice none 0 0,.slice none 0 0,.slice (some ⟨o,0,none⟩) ts.length cap] 108)).alloc (.cells #[.pointer (some ⟨d.heap.size+1,0,none⟩),.int .i64 0,.int .i64 0,.int .i64 0,.int .i64 0] 188)).heap[w.heap.size]? =some (.cells #[.int .i64 0,.int .i64 0] 27 (0,0))):=ai (ai (ai ((q.block w.heap.size (by simp)).trans (af rfl))))
 have ba:Hid (Below w.heap.size w (((d.alloc (.cells #[.int .i64 0,.int .i64 0] 27)).alloc (.cells #[.int .i64 0,.int .i64 0,.string ⟨#[]⟩,.slice none 0 0,.slice none 0 0,.slice none 0 0,.slice none 0 0,.slice none 0 0,.bool false,.slice none 0 0,.slice none 0 0,.slice none 0 0,.slice none 0 0,.bool false,.slice none 0 0,.slice none 0 0,.slice none 0 0,.slice none 0 0,.bool false,.int .i64 0,.int .i64 0,.slice none 0 0,.slice none 0 0,.slice (some ⟨o,0,none⟩) ts.length cap] 108)).alloc (.cells #[.pointer (some ⟨d.heap.size+1,0,none⟩),.int .i64 0,.int .i64 0,.int .i64 0,.int .i64 0] 188))):=((((((Jj _ _).alloc (Ji _) _).trans (q.mono (by simp))).alloc (by have:=q.size;simp at this;omega) _).alloc (by have:=q.size;simp at this;simp;omega) _).alloc (by have:=q.size;simp at this;simp;omega) _)
 have b9:w.heap.size+1<=d.heap.size:=by have:=q.size;simpa using this
 have M:Hid (∀hz,hz<=w.heap.size->iR ⟨d.heap.size+1+1,d.heap.size+1,o,cap,d.heap.size+1+1+1,ts,y⟩ ⟨0,[],.slice none 0 0,.slice none 0 0,[]⟩ hz):=fun hz Z=>a' hz (by omega) (by omega);have bb:(((d.alloc (.cells #[.int .i64 0,.int .i64 0] 27)).alloc (.cells #[.int .i64 0,.int .i64 0,.string ⟨#[]⟩,.slice none 0 0,.slice none 0 0,.slice none 0 0,.slice none 0 0,.slice none 0 0,.bool false,.slice none 0 0,.slice none 0 0,.slice none 0 0,.slice none 0 0,.bool false,.slice none 0 0,.slice none 0 0,.slice none 0 0,.slice none 0 0,.bool false,.int .i64 0,.int .i64 0,.slice none 0 0,.slice none 0 0,.slice (some ⟨o,0,none⟩) ts.length cap] 108)).alloc (.cells #[.pointer (some ⟨d.heap.size+1,0,none⟩),.int .i64 0,.int .i64 0,.int .i64 0,.int .i64 0] 188)).cell? ⟨d.heap.size+1,2,none⟩=some (.string ⟨#[]⟩):=by rw[(blk (ai (af (by simp)))).1];rfl
 have ac:=ab bb;clear bb;obtain⟨B,ad⟩:=ag a5 a9;clear q a1 a2 a3 a4 W c a5 a9 a' V aU hg0;go_wp2_with fail
 obtain⟨a,r⟩: ∃a:Cf,a=⟨d.heap.size+1+1,d.heap.size+1,o,cap,d.heap.size+1+1+1,ts,y⟩:=⟨_,rfl⟩
 have b':a.ts=ts:=by rw[r]
 have bc:a.kq=y:=by rw[r]
 have ca:d.heap.size+1+1+1=a.lo:=by rw[r]
 have be:d.heap.size+1+1=a.rb:=by rw[r]
 have bg:d.heap.size+1=a.qb:=by rw[r]
 rw[<-r]at B ad M
 obtain⟨ae,bk⟩: ∃cb:Xs,cb=⟨0,[],.slice none 0 0,.slice none 0 0,[]⟩:=⟨_,rfl⟩
 rw[<-bk]at B M;have cc:w.heap.size<(((d.alloc (.cells #[.int .i64 0,.int .i64 0] 27)).alloc (.cells #[.int .i64 0,.int .i64 0,.string ⟨#[]⟩,.slice none 0 0,.slice none 0 0,.slice none 0 0,.slice none 0 0,.slice none 0 0,.bool false,.slice none 0 0,.slice none 0 0,.slice none 0 0,.slice none 0 0,.bool false,.slice none 0 0,.slice none 0 0,.slice none 0 0,.slice none 0 0,.bool false,.int .i64 0,.int .i64 0,.slice none 0 0,.slice none 0 0,.slice (some ⟨o,0,none⟩) ts.length cap] 108)).alloc (.cells #[.pointer (some ⟨d.heap.size+1,0,none⟩),.int .i64 0,.int .i64 0,.int .i64 0,.int .i64 0] 188)).heap.size:=by simp;omega
 generalize(((d.alloc (.cells #[.int .i64 0,.int .i64 0] 27)).alloc (.cells #[.int .i64 0,.int .i64 0,.string ⟨#[]⟩,.slice none 0 0,.slice none 0 0,.slice none 0 0,.slice none 0 0,.slice none 0 0,.bool false,.slice none 0 0,.slice none 0 0,.slice none 0 0,.slice none 0 0,.bool false,.slice none 0 0,.slice none 0 0,.slice none 0 0,.slice none 0 0,.bool false,.int .i64 0,.int .i64 0,.slice none 0 0,.slice none 0 0,.slice (some ⟨o,0,none⟩) ts.length cap] 108)).alloc (.cells #[.pointer (some ⟨d.heap.size+1,0,none⟩),.int .i64 0,.int .i64 0,.int .i64 0,.int .i64 0] 188))=k at*;rw[be];rw[bg]at ac;have cd:w.heap.size<=a.lo:=by omega
 have bl:w.heap.size<a.rb/\w.heap.size<a.qb:=by omega
 clear r bk be bg ca b6 b9;subst b';rw[<-bc]at Y;have bn:=ab Y;clear Y bc;have bq:=ab x.last;have aj:=ab x.lw;have ak:=ab (x.num aR);have al:=ab x.cmp;have br:=RF.ne B;refine(DS a _ bR ae ⟨#[119,105,116,104]⟩ (by exact B)).mono ?_;rintro e ce ⟨an,rfl,b,c,l⟩;obtain⟨p,ao,bs⟩:=aC b c (ad.kp l br.1);clear b c l B ad
 obtain⟨f,C⟩: ∃f,Hid (f=eV a.ts bR):=⟨_,rfl⟩
 go_upto_if 28 with(fail)
 go_cut [7] (fun _ i=> ∃t,RX a i f.2 t/\GX a k ae i t)
 case first=>
  cases m:az a.ts bR [⟨#[119,105,116,104]⟩]with
  |false=>
   have ap:Hid (f=(none,bR)):=by unfold Hid;rw[U C];unfold eV;rw[m];rfl
   unfold b8 at p;rw[m]at p;clear m;go_wp2_with fail;go_meet
   case rel=>rw[U ap];exact⟨an,p,ao⟩
  |true=>
   have ap:Hid (f=(some (iy a.ts (aD bR) (ah a.ts bR.nx).place).1,(iy a.ts (aD bR) (ah a.ts bR.nx).place).2)):=by unfold Hid;rw[U C];unfold eV;rw[m];rfl
   unfold b8 at p;rw[m]at p;have cf:Hid (RX a ce (aD bR) an):=U p;have cg:Hid (a.kq=false):=by unfold Hid;rw[U bn,m];rfl
   clear m p;go_wp2_with fail;refine(GZ a aj ak al _ (aD bR) an (ah a.ts bR.nx).place (by exact U cf) rfl bs cg).mono ?_;rintro e cR ⟨t,rfl,b,c⟩;obtain⟨u,z⟩:=ag b (ao.trans c);clear b c;go_wp2_with fail;go_meet
   case rel=>rw[U ap];exact⟨t,u,z⟩
 case rest=>
  obtain⟨t,b,c⟩:=hcut;obtain⟨u,z,bt⟩:=aC b c (nF bq (st:=bR) aV);rw[<-U C]at bt;have bu:f.2.dp=0:=bt.dp;clear b c p ao bs;have cT:=z.size
  have ch:Hid (f.1=none->a.kq=true):=fun e=>by
   rw[U bn]
   cases m:az a.ts bR [⟨#[119,105,116,104]⟩]with
   |false=>rfl
   |true=>rw[U C]at e;unfold eV at e;rw[m]at e;cases e
  have ci:a.qb<k.heap.size:=by
   rcases J' a.qb k.heap.size with h'|h'
   ·exact h'
   ·have hn:=U ac;simp[World.cell?,Array.getElem?_eq_none h']at hn
  obtain⟨X,N⟩: ∃X,Hid (X=fJ a.ts f.2):=⟨_,rfl⟩
  have ar:=ab (ja a aj ak al wc f.2 t u bu);rw[<-U N]at ar;have au:=ab (ja a aj ak al wc.drew f.2 t u.drew bu);rw[<-U N]at au;have cj:=ab (gz bq (RF.nx u));rw[<-U N]at cj;obtain⟨⟨O,D,E,j,n⟩,P,F,⟨t0,t1,t2⟩,Q,R,G⟩:=RF.facts u;clear D E j n F t0 t1 t2 G
  go_upto_region 10 with(fail)
  go_cut [] (fun i=> ∃g,RX a i X.2 g/\PS a w.heap.size k (f.1=none) X.1 i g X.2.er)
  case first=>
   go_region_with (first
    |(go_at_call 69;first|refine ar.mono ?_|refine au.mono ?_;rintro e cl ⟨cV,cW,cZ,c0,c1,a2,c2,a3,c3,W,a4,bv,c4,c5,c6,c7,rfl,b,c,bx,bz,bA⟩;obtain⟨⟨c8,_,_,_,_⟩,_,_,_,c9,c',_⟩:=RF.facts b;have dd:=b.qfro;obtain⟨df,dk⟩:=b.qcell 14 (by decide);obtain⟨dp,dq⟩:=b.qcell 15 (by decide);obtain⟨ds,dw⟩:=b.qcell 16 (by decide);obtain⟨dT,d'⟩:=b.qcell 17 (by decide);obtain⟨ea,eb⟩:=b.qcell 18 (by decide);have bF:=ab b;have bG:=ab c;have cp:=ab bA;have cq:=ab bx;have cr:=ab bz;clear b c bA bx bz)
    |fail)
   all_goals
    go_wp2_with fail;go_meet
    case rel=>
     have av:GX a k ae cl bv:=by first|exact z.trans bG|exact z.trans (GX.drew0 bG)
     refine⟨bv,?_,?_⟩
     ·repeat(first|exact U bF|refine RX.setQ ?_ (by decide)|refine RX.drew ?_)
     ·have bJ:=PS.put (hn:=f.1=none) (er:=X.2.er) bF cq cr (FF av (fun hz Z=>(U M) hz (by omega)) (by omega)) (av.off (by omega) (M _ (Ji _))) bl.2 (by have:=ba.size;simp;omega) cd (fun e=>(av.fr.qk (ch e) br.1 ci 2 (by omega)).trans ac) cp
      first|exact bJ|exact bJ.drew
  case rest=>
   obtain⟨g,b,c⟩:=hcut;obtain⟨A,ax⟩:=ag b c;clear b c O P Q R u z ar au;have ay:=ab (Im A);obtain⟨⟨O,D,E,j,n⟩,P,F,⟨t0,t1,t2⟩,Q,R,G⟩:=RF.facts A;have cs:=RF.inx A;clear E j n t1 t2;generalize((dh (ah a.ts g.I):Nat):Int)=bL at*
   go_upto_region 11 with(fail)
   go_cut [53] (fun ct i=>ct=.bool (bL !=5)/\RX a i X.2 g/\PS a w.heap.size k (f.1=none) X.1 i g X.2.er)
   case first=>
    go_region
    all_goals
     go_wp2_with fail;go_meet
     case rel=>exact⟨rfl,by first|exact U A|exact A.drew,by first|exact U ax|exact ax.drew⟩
   case rest=>
    obtain⟨rfl,b,c⟩:=hcut;obtain⟨aA,H⟩:=ag b c;clear b c O D P F t0 Q R G A ax cs
    go_upto_if 53 with(fail)
    go_cut [] (fun i=> ∃S,RX a i (gR a.ts X.2) S/\PS a w.heap.size k (f.1=none) X.1 i S (gR a.ts X.2).er)
    case first=>
     cases bN:(bL !=5)with
     |false=>
      have aI:=ab (ay.2 bN);go_wp2_with fail;go_meet
      case rel=>rw[<-U aI];exact⟨g,aA,H⟩
     |true=>
      have aI:=ab (ay.1 bN);go_wp2_with fail;refine(iN a _ X.2 g.I g.ms g.mv g.ev g.en (by exact aA)).mono ?_;rintro e bS ⟨rfl,b,l⟩;have aJ:Hid (RX a bS (bM a.ts X.2 bE) g):=b
      have I:Hid (PS a w.heap.size k (f.1=none) X.1 bS g (bM a.ts X.2 bE).er):=⟨H.bel.trans ⟨l.os,l.tape,l.output,l.size,fun hz Z=>l.block hz (Js Z (Jt cc H.bel.size)) (by omega)⟩,H.off,fun e=>(eC e).elim⟩
      clear b l;go_wp2_with fail;go_meet
      case rel=>rw[<-U aI];exact⟨g,aJ,I⟩
    case rest=>
     obtain⟨S,b,c⟩:=hcut;obtain⟨aJ,I⟩:=ag b c;clear b c aA H ay;have bX:Hid (Below (w.heap.size+1) k wc):=I.bel;have aL:=ab ((bX.block w.heap.size (by omega)).trans b7);have b0:Hid (Below w.heap.size w wc):=ba.trans (bX.mono (by omega));obtain⟨b1,ed⟩:=blk aL;have ef:=aa aL;obtain⟨⟨O,D,E,j,n⟩,P,F,⟨t0,t1,t2⟩,Q,R,G⟩:=RF.facts aJ;have eg:Hid (iR a S w.heap.size):=I.off;have b2:da a.ts bR=(⟨(ah a.ts bR.nx).place,f.1,X.1⟩,X.2):=by rw[U N,U C];rfl
     have b3:jy a.ts=ux (gR a.ts X.2).er ⟨(ah a.ts bR.nx).place,f.1,X.1⟩:=by have:=rW (ts:=a.ts) (X:=da a.ts bR) rfl;rw[b2]at this;exact this
     have T:=ab b3;clear D E F t0 t1 t2 G b2 b3
     cases J:(gR a.ts X.2).er with
     |none=>
      rw[J]at j n T;have cu:wc.cell? ⟨a.rb,3,none⟩=some (.int .i64 0):=j;have cv:Hid (f.1=none->tL wc w.heap.size a.qb X.1):=I.ok J;clear j n J;go_wp2;refine Jr (v:=.tuple #[.pointer (some ⟨a.qb,0,none⟩),.agg #[.int .i64 0,.int .i64 0]]) (by simp[results,results39,go_sem,b1]) rfl ?_;rw[U T];refine⟨?_,a.qb,rfl,MK bl.2,fun e=>?_⟩
      ·repeat(first|exact U b0|apply JI|refine J0 ?_ (by exact Ji _) _)
      ·exact(cv e).kpn (((Kp.refl w.heap.size _).setCell _ _).setCell _ _) aL (by omega)
     |some cz=>
      obtain⟨aN,hz⟩:=cz;rw[J]at j n T;have ei:(fA hz !=0)=true:=by simp only[KZ,ne_eq];exact qN
      have cu:wc.cell? ⟨a.rb,3,none⟩=some (.int .i64 (fA hz)):=j;have en:wc.cell? ⟨a.rb,4,none⟩=some (.int .i64 aN):=n;clear j n J;generalize b4:fA hz=cF at*;have cI:=ab b4;clear b4;go_wp2
      go_region
      all_goals
       go_wp2;refine Jr (v:=.tuple #[.pointer none,.agg #[.int .i64 cF,.int .i64 aN]]) (by simp[results,results39,go_sem,b1]) rfl ?_;rw[U T];refine⟨?_,by show Ending.returned _=Ending.returned (.tuple #[.pointer none,.agg #[.int .i64 (fA hz),.int .i64 aN]]);rw[U cI]⟩
       repeat(first|exact U b0|apply JI|refine J0 ?_ (by exact Ji _) _)
theorem vV(s:ByteArray)(w:World)(a:s.size<=1000):Calls prog 39 #[.string s] w fun e w'=>nS w (cP s) e w':=by
 unfold cP
 cases b:fH s with
 |error c=>obtain⟨d,f⟩:=c;exact B4 s w a d f b
 |ok g=>exact B5 s w a g b
end
end Go.Proofs.YtfkeddkfegaeiaaGreatDoor
