import Derived.Test.YtfkeddkfegaeiaaGreatDoorPnRfD
set_option maxRecDepth 100000
set_option maxHeartbeats 20000000
namespace Go.Proofs.YtfkeddkfegaeiaaGreatDoor
section
open Go.RowKit Tryz
theorem Ac{ts:List Tk}{st:St}(a:az ts st jH=true)(n:Nat):aQ ts (n+1) st=(gv (ah ts st.nx).place::(eK (aQ ts n) (aD st)).1,(eK (aQ ts n) (aD st)).2):=by unfold aQ;rw[Jo a]
theorem BL(a:Int): ∀u∈ [Value.int .i64 a],u.oneCell'=true:=by intro u b;simp only[JN]at b;subst b;rfl
theorem wA(c:Cf)(w:World)(st:St)(I:Nat)(b:List Nat)(l d:Value)(f:List RE)(n:Nat)(g:RF c w st I b l d f)(aN:Lw c.ts)(bS:st.dp<=16)(hz:az c.ts st jH=true)(N:ni c 278 (st.dp+1) (aQ c.ts n)):
  Calls prog 278 #[.pointer (some ⟨c.rb,0,none⟩)] w fun e w'=>vJ c w I b l d f (aQ c.ts (n+1) st) e w':=by
 obtain⟨aR,O,P⟩:=Jq.1 Dv;simp only[JB]at P;obtain⟨Q,R,S⟩:=P;obtain⟨aT,aU,aV,a0⟩:=aP O Q R S;clear O Q R S;have m:=g.okHit hz;have a1:=g.cor m;subst a1;obtain⟨⟨o,p,j,k,q⟩,r,s,⟨t0,t1,t2⟩,t,u,v⟩:=g.facts;have a2:w.cell? ⟨c.rb,3,none⟩=some (.int .i64 0):=by rw[k,m];rfl
 have bX:decide (16<(st.dp:Int))=false:=by simp;omega
 have T:(ah c.ts st.nx).kind=1:=by
  unfold az at hz;rw[Kc]at hz
  simpa using hz.1
 have V:=om hz;have W:dh (ah c.ts st.nx)=4:=by unfold dh;rw[Jo T,V];rfl
 have b0:=g.len;have b1:=g.nx;obtain⟨X,a3,Y,a4⟩:=aP g m hz N;rw[W]at t0;clear g k m hz N T V W;rw[Ac (U Y)];go_enter func278,ntmps278;go_wp2
 go_region
 go_wp2_with fail;have Z:Hid (RF c (w.setCell ⟨c.rb,2,none⟩ (.int .i64 ((st.dp:Int)+1))).drew {st with dp:=st.dp+1} st.nx b l d f):=(X.deeper (st.dp+1) (by omega)).keep (Jj _ _).drew;refine(gV c _ {st with dp:=st.dp+1} st.nx ⟨#[45]⟩ b l d f (by exact Z)).mono ?_;rintro e x ⟨rfl,⟨a5,a9,a⟩,ac⟩;have ad:az c.ts {st with dp:=st.dp+1} [⟨#[45]⟩]=true:=U Y;unfold b8 at a;rw[ad]at a⊢;simp only[Mi]at a;have a':a5=st.nx+1:=a.cor a3;subst a';have ae:=ab a;have ba:Hid (Kp c.rb w x):=(((Kp.refl c.rb w).setCell _ _).drew).trans ac;clear o p j a2 q r s t0 t1 t2 t u v ac ad Z a9;obtain⟨⟨o,p,j,k,q⟩,r,s,⟨t0,t1,t2⟩,t,u,v⟩:=a.facts;obtain⟨b2,D,b3,b4,bb,b5,E,bc⟩:=a.query;obtain⟨aj,b6⟩:=blk D;obtain⟨y,z,ak⟩:=a8 E;have b7:=a.top;have b9:=a.low;have b':=X.few;obtain⟨be,F⟩:=ag D E;have bg:x.cell? ⟨c.qb,22,none⟩=some (.slice y b.length z):=by rw[aj,bb,ak]
 subst ak;clear a D bc E aj
 go_upto_region 19 with(fail)
 go_cut []from 74 to 89 (fun al=> ∃A,RF c al (aD {st with dp:=st.dp+1}) (st.nx+1) (b++[st.nx]) A d f/\Fr c x (.slice y b.length z) d al A d)
 case first=>
  go_region_law (first
   |(refine KE _ rfl (.tmp 84) (.tmp 86) 32 rfl c.lo 3 aR (.int .i64 0) 1 8 underlying32 aT aU aV a0 rfl (by decide) (.slice y b.length z) b.length (jN b) (by simp[Act.eval]) (F.alloc _) ⟨x.heap.size,0,none⟩ 1 1 [.int .i64 (st.nx:Int)] (by simp[Act.eval]) rfl (cQ (by first|rfl|simp)) (BL _) (by decide) (by unfold maxLen;omega) (by omega) (by simp;omega) _ rfl ?_;intro ca cb cc an B ao _;have ap:=ab ((B.block c.qb (by simp;omega) (fun G=>by have:=(F.lt _ G.symm).1;omega)).trans (ai be));obtain⟨cd,f11⟩:=blk ap;have ce:=aa ap;have ar:=ab ((B.block c.rb (by simp;omega) (fun G=>by have:=(F.lt _ G.symm).1;omega)).trans (ai ae.reader));obtain⟨cf,f12⟩:=blk ar;have cg:=aa ar;have bk:=ab an;have bl:=ab B;have bn:=ab ao;clear an B ao)
   |fail)
  all_goals
   go_wp2_with fail;go_meet
   case rel=>exact⟨_,ae.addedM st.nx (by show b.length+1<=st.nx+1;omega) (by repeat(first|exact Jj _ _|apply JI|refine JY ?_ (by first|exact Ji _|(simp;done)|(simp;omega)) _)) bk bl (bn.imp id (fun e=>by rw[e];first|exact Ji _|(simp;done)|(simp;omega)))⟩
 case rest=>
  obtain⟨A,a,au⟩:=hcut;obtain⟨br,bs⟩:=ag a ((Fr.ofKp (.slice y b.length z) d ba).trans au);have bt:=a.nx;clear a au o p j k q r s t0 t1 t2 t u v bg
  obtain⟨i,H⟩: ∃i,Hid (i=aQ c.ts n (aD {st with dp:=st.dp+1})):=⟨_,rfl⟩
  have J:=ab (a4 wc (aD {st with dp:=st.dp+1}) (st.nx+1) (b++[st.nx]) A d f br rfl);rw[<-U H]at J;have av:i.2.dp=st.dp+1:=by rw[U H];exact(cm aN.last n _ bt).dp
  go_wp2_with fail;refine J.mono ?_;rintro e ch ⟨bu,K,L,M,bv,ci,rfl,ax,ay,cj,cl,aA,⟨bx,rfl⟩,aI⟩;obtain⟨bz,bA,bF⟩:=aC ax (bs.trans ay) aI;rw[Jk]at aA;clear ax ay aI J;go_wp2_with fail;refine(ng c _ i.2 K L M bv _ (by exact bz) (by omega) _ _ _ _ _ _ _ _ _ _).mono ?_;rintro e bG ⟨aJ,rfl,C,aL⟩;obtain⟨cp,bJ⟩:=ag C (bA.trans aL);obtain⟨⟨o,p,j,k,q⟩,r,s,⟨t0,t1,t2⟩,t,u,v⟩:=C.facts;have bL:Hid (RF c (bG.setCell ⟨c.rb,2,none⟩ (.int .i64 (st.dp:Int))) {i.2 with dp:=st.dp} K L M aJ _):=C.deeper st.dp (by omega);clear C aL;rw[av]at j;go_wp2;go_ret;have bN:eK (aQ c.ts n) (aD st)=(i.1,{i.2 with dp:=st.dp}):=by unfold eK;rw[show({aD st with dp:=(aD st).dp+1}:St)=aD {st with dp:=st.dp+1}from rfl,<-U H,av];rfl
  rw[bN];refine⟨((f++bx).length:Nat),K,L,M,aJ,_,by simp,bL,bJ.trans (Fr.ofKp _ _ ((Kp.refl _ _).setCell _ _)),by omega,by rw[Jk,JZ];omega,by simp only[JZ]at aA;omega,⟨_,Kf _ _ _⟩,fun e=>?_⟩;exact .minus _ ⟨⟨#[45]⟩,0,0,0,⟨#[]⟩,0,0,⟨#[]⟩,bu,-1⟩ _ _ (oC _ _) rfl rfl ((bF e).more _)
theorem Fp{ts:List Tk}{st:St}(a:az ts st jH=false)(b:az ts st ju=true)(n:Nat):aQ ts (n+1) st=(mH (ah ts st.nx).place::(eK (ek ts (aQ ts n)) (aD st)).1,aH ts (eK (ek ts (aQ ts n)) (aD st)).2 oe):=by unfold aQ;rw[a,Jn (by decide),Jo b]
theorem AP(ts:List Tk)(st:St)(d:Nat)(xs:List ByteArray):aH ts {st with dp:=d} xs= {aH ts st xs with dp:=d}:=by unfold aH;rw[show az ts {st with dp:=d} xs=az ts st xs from rfl];split<;>rfl
theorem wB(ts:List Tk)(st:St)(xs:List ByteArray):(aH ts st xs).dp=st.dp:=by unfold aH;split<;>rfl
theorem BM(c:Cf)(w:World)(st:St)(I:Nat)(i:List Nat)(f g:Value)(j:List RE)(n:Nat)(d:RF c w st I i f g j)(k:Lw c.ts)(a':st.dp<=16)(z:az c.ts st jH=false)(hz:az c.ts st ju=true)(A:ni c 169 (st.dp+1) (ek c.ts (aQ c.ts n))):
  Calls prog 278 #[.pointer (some ⟨c.rb,0,none⟩)] w fun e w'=>vJ c w I i f g j (aQ c.ts (n+1) st) e w':=by
 have m:=d.okHit hz;have ak:=d.cor m;subst ak;obtain⟨⟨B,C,r,s,D⟩,E,F,⟨t0,t1,t2⟩,G,H,J⟩:=d.facts;have al:w.cell? ⟨c.rb,3,none⟩=some (.int .i64 0):=by rw[s,m];rfl
 have ba:decide (16<(st.dp:Int))=false:=by simp;omega
 have K:(ah c.ts st.nx).kind=1:=by
  unfold az at hz;rw[Kc]at hz
  simpa using hz.1
 have L:=om hz;have M:dh (ah c.ts st.nx)=4:=by unfold dh;rw[Jo K,L];rfl
 have bb:=d.len;have bc:=d.nx;have be:=d.few;obtain⟨an,N,O,P,ao⟩:=dD d m hz z A;rw[M]at t0;clear d s m hz A K L M z;rw[Fp (U P) (U O)];go_enter func278,ntmps278;go_wp2
 go_region
 go_wp2_with fail;have Q:Hid (RF c (w.setCell ⟨c.rb,2,none⟩ (.int .i64 ((st.dp:Int)+1))).drew {st with dp:=st.dp+1} st.nx i f g j):=(an.deeper (st.dp+1) (by omega)).keep (Jj _ _).drew;refine(gV c _ {st with dp:=st.dp+1} st.nx ⟨#[45]⟩ i f g j (by exact Q)).mono ?_;rintro e ap ⟨rfl,⟨ar,au,a⟩,l⟩;have R:az c.ts {st with dp:=st.dp+1} [⟨#[45]⟩]=false:=U P;unfold b8 at a;rw[R]at a⊢;simp only[Km,Lj]at a;have t:ar=st.nx:=a.cor N;subst t;have av:=ab a;have ax:Hid (Kp c.rb w ap):=(((Kp.refl c.rb w).setCell _ _).drew).trans l;clear B C r al D E F t0 t1 t2 G H J l R Q au a;go_wp2_with fail;refine(iO c _ {st with dp:=st.dp+1} st.nx ⟨#[40]⟩ i f g j (by exact av)).mono ?_;rintro e ay ⟨rfl,⟨aA,t,a⟩,l⟩;have S:aH c.ts {st with dp:=st.dp+1} [⟨#[40]⟩]=aD {st with dp:=st.dp+1}:=by unfold aH;rw[Jo (show az c.ts {st with dp:=st.dp+1} [⟨#[40]⟩]=true from U O)]
 rw[S]at a;have T:aA=st.nx+1:=a.cor N;subst T;obtain⟨aI,aJ⟩:=ag a (Fr.ofKp f g (ax.trans l));have V:=a.nx;clear a l S t
 obtain⟨b,o⟩: ∃b,Hid (b=ek c.ts (aQ c.ts n) (aD {st with dp:=st.dp+1})):=⟨_,rfl⟩
 have u:=ab (ao ay (aD {st with dp:=st.dp+1}) (st.nx+1) i f g j aI rfl);rw[<-U o]at u;have W:b.2.dp=st.dp+1:=by rw[U o];exact(jI k.last (cm k.last n) _ V).dp
 have aL:b.2.nx<c.ts.length:=by rw[U o];exact(jI k.last (cm k.last n) _ V).lt
 go_wp2_with fail;refine u.mono ?_;rintro e bg ⟨aN,aR,v,p,q,x,rfl,X,Y,T,bk,bl,Z,ac⟩;have aT:=ab Z;clear Z;obtain⟨aU,aV,a0⟩:=aC X (aJ.trans Y) ac;clear X Y ac u;go_wp2_with fail;refine(iO c _ b.2 aR ⟨#[41]⟩ v p q x (by exact aU)).mono ?_;rintro e a1 ⟨rfl,⟨ad,bn,y⟩,ae⟩;have a2:=ab (aV.trans (Fr.ofKp p q ae));obtain⟨⟨B,C,r,s,D⟩,E,F,⟨t0,t1,t2⟩,G,H,J⟩:=y.facts;have a3:Hid (RF c (a1.setCell ⟨c.rb,2,none⟩ (.int .i64 (st.dp:Int))) {aH c.ts b.2 [⟨#[41]⟩]with dp:=st.dp} ad v p q x):=y.deeper st.dp (by omega);clear y ae;rw[wB,W]at r;go_wp2;go_ret;have a4:eK (ek c.ts (aQ c.ts n)) (aD st)=(b.1,{b.2 with dp:=st.dp}):=by unfold eK;rw[show({aD st with dp:=(aD st).dp+1}:St)=aD {st with dp:=st.dp+1}from rfl,<-U o,W];rfl
 rw[a4];refine⟨aN,ad,v,p,q,x,rfl,?_,a2.trans (Fr.ofKp _ _ ((Kp.refl _ _).setCell _ _)),by omega,by omega,by omega,aT,fun e=>?_⟩
 ·show RF c _ (aH c.ts {b.2 with dp:=st.dp} oe) _ _ _ _ _
  rw[AP];exact a3
 ·have a5:(aH c.ts b.2 [⟨#[41]⟩]).er=none:=by
   have aj:(aH c.ts {b.2 with dp:=st.dp} oe).er=none:=e;rw[AP]at aj;exact aj
  have a9:b.2.er=none:=(aM k.last aL _).er a5;exact .br _ _ _ (a0 a9)
theorem BN{ts:List Tk}(a:cO ts){st:St}(i:st.nx<ts.length)(c:az ts st jH=false)(d:az ts st ju=false)(e:(ah ts st.nx).kind≠2)(f:(ah ts st.nx).kind≠3)(n:Nat):(aQ ts (n+1) st).2=bM ts st bE:=by
 have g:cx ts st 2=bM ts st bE:=by unfold cx;rw[Jn e]
 have b:fi ts (bM ts st bE):=⟨fun h=>eC h,by show ts.length-1+1=ts.length;omega⟩
 unfold aQ;rw[c,d];simp only[Km,Lj];rw[Jn f]
 show nY ts st=_
 unfold nY;rw[g,nh a b,pi a b (by decide)]
theorem yA(c:Cf)(w:World)(st:St)(I:Nat)(hz:List Nat)(f g:Value)(i:List RE)(n:Nat)(a:RF c w st I hz f g i)(k:st.er=none)(a2:st.dp<=16)(q:az c.ts st jH=false)(r:az c.ts st ju=false)(A:(ah c.ts st.nx).kind≠2)(B:(ah c.ts st.nx).kind≠3)(C:ni c 169 (st.dp+1) (ek c.ts (aQ c.ts n))):
  Calls prog 278 #[.pointer (some ⟨c.rb,0,none⟩)] w fun e w'=>vJ c w I hz f g i (aQ c.ts (n+1) st) e w':=by
 have D:=BN a.last a.nx q r A B n;have ac:=a.cor k;subst ac;obtain⟨⟨E,F,s,t,G⟩,H,J,⟨t0,t1,t2⟩,K,L,M⟩:=a.facts;have ad:w.cell? ⟨c.rb,3,none⟩=some (.int .i64 0):=by rw[t,k];rfl
 have a3:decide (16<(st.dp:Int))=false:=by simp;omega
 have ae:=a.kinds st.nx
 have u:((dh (ah c.ts st.nx):Nat):Int)≠3/\((dh (ah c.ts st.nx):Nat):Int)≠2:=by
  unfold dh;split
  ·split<;>decide
  ·split
   ·decide
   ·omega
 have a4:(((dh (ah c.ts st.nx):Nat):Int)==3)=false:=by simpa using u.1
 have a5:(((dh (ah c.ts st.nx):Nat):Int)==2)=false:=by simpa using u.2
 have a9:=a.len;have a':=a.nx;have ba:=a.few;have N:=ab a.last;obtain⟨aj,bb,ak,al,an,O⟩:=io a k r q C D;clear a t k r C q D A B ae u;generalize((dh (ah c.ts st.nx):Nat):Int)=bc at*;go_enter func278,ntmps278;go_wp2
 go_region
 go_wp2_with fail;have P:Hid (RF c (w.setCell ⟨c.rb,2,none⟩ (.int .i64 ((st.dp:Int)+1))).drew {st with dp:=st.dp+1} st.nx hz f g i):=(aj.deeper (st.dp+1) (by omega)).keep (Jj _ _).drew;refine(gV c _ {st with dp:=st.dp+1} st.nx ⟨#[45]⟩ hz f g i (by exact P)).mono ?_;rintro e ao ⟨rfl,⟨ap,be,b⟩,j⟩;have Q:az c.ts {st with dp:=st.dp+1} [⟨#[45]⟩]=false:=U al;unfold b8 at b;rw[Q]at b⊢;simp only[Km,Lj]at b;have ar:=ab b;have au:Hid (Kp c.rb w ao):=(((Kp.refl c.rb w).setCell _ _).drew).trans j;clear E F s ad G H J t0 t1 t2 K L M j Q P b;go_wp2_with fail;refine(iO c _ {st with dp:=st.dp+1} ap ⟨#[40]⟩ hz f g i (by exact ar)).mono ?_;rintro e av ⟨rfl,⟨ax,bg,b⟩,j⟩;have R:aH c.ts {st with dp:=st.dp+1} [⟨#[40]⟩]=bM c.ts {st with dp:=st.dp+1} bE:=by unfold aH;rw[Jn (by rw[show az c.ts {st with dp:=st.dp+1} [⟨#[40]⟩]=false from U ak];decide)]
 rw[R]at b
 obtain⟨d,l⟩: ∃d,Hid (d=bM c.ts {st with dp:=st.dp+1} bE):=⟨_,rfl⟩
 rw[<-U l]at b;have v:fi c.ts d:=by rw[U l];exact⟨fun e=>eC e,by show c.ts.length-1+1=c.ts.length;omega⟩
 have S:d.dp=st.dp+1:=by rw[U l];rfl
 obtain⟨ay,aA,aI⟩:=aC v b (Fr.ofKp f g (au.trans j));have T:=yw N v n;have V:=ab (an av d ax hz f g i aA S);clear b j R v;go_wp2_with fail;refine V.mono ?_;rintro e bk ⟨aJ,aL,x,m,o,y,rfl,z,W,bl,bn,bq,X,aN⟩;have aR:=ab X;clear X;rw[T]at z;obtain⟨aT,aU⟩:=ag z (aI.trans W);clear z W aN V T;go_wp2_with fail;refine(iO c _ d aL ⟨#[41]⟩ x m o y (by exact aT)).mono ?_;rintro e aV ⟨rfl,⟨Y,br,p⟩,Z⟩;rw[nh (U N) (U ay)]at p;have a0:=ab (aU.trans (Fr.ofKp m o Z));obtain⟨⟨E,F,s,t,G⟩,H,J,⟨t0,t1,t2⟩,K,L,M⟩:=p.facts;have a1:Hid (RF c (aV.setCell ⟨c.rb,2,none⟩ (.int .i64 (st.dp:Int))) {d with dp:=st.dp} Y x m o y):=p.deeper st.dp (by omega);clear p Z;rw[S]at s;go_wp2;go_ret;refine⟨aJ,Y,x,m,o,y,rfl,?_,a0.trans (Fr.ofKp _ _ ((Kp.refl _ _).setCell _ _)),by omega,by omega,by omega,aR,fun e=>?_⟩
 ·rw[U O];have e:bM c.ts st bE= {d with dp:=st.dp}:=by rw[U l];rfl
  rw[e];exact a1
 ·rw[U O]at e;exact(eC e).elim
theorem rE(c:Cf)(s:Lw c.ts)(x:jB c.ts)(n d:Nat)(l:n+d=17)(o: ∀m,n=m+1->ni c 278 (d+1) (aQ c.ts m))(p: ∀m,n=m+1->ni c 169 (d+1) (ek c.ts (aQ c.ts m))):ni c 278 d (aQ c.ts n):=by
 intro b a e f g h i j y;by_cases k:a.er=none
 ·match n,l,o,p with
  |0,l,_,_=>exact yy c b a e f g h i j k (by omega)
  |m+1,l,o,p=>
   have t:=o m rfl;have q:=p m rfl;rw[<-y]at t q
   cases r:az c.ts a jH with
   |true=>exact wA c b a e f g h i m j s (by omega) r t
   |false=>
    cases u:az c.ts a ju with
    |true=>exact BM c b a e f g h i m j s (by omega) r u q
    |false=>
     by_cases v:(ah c.ts a.nx).kind=3
     ·exact Aa c b a e f g h i m j x k (by omega) v
     ·by_cases w:(ah c.ts a.nx).kind=2
      ·exact Ab c b a e f g h i m j k (by omega) w
      ·exact yA c b a e f g h i m j k (by omega) r u w v q
 ·exact yx c b a e f g h i n j k
structure Ga(c:Cf)(w:World)(bR:St)(I0:Nat)(ms0:List Nat)(mv0 ev0:Value)(en0:List RE)(fac:St->Rx)(xs:List ByteArray)(pl:Nat)(X:Rx)(f:Nat)(W:World)(l:List Nd)(st:St)(I:Nat)(ms:List Nat)(mv ev:Value)(en:List RE)(n:Int):Prop where
 rf:RF c W st I ms mv ev en
 fr:Fr c w mv0 ev0 W mv ev
 le:I0<=I
 few:en.length+I0<=en0.length+I
 more: ∃ys,en=en0++ys
 fewm:ms.length+I0<=ms0.length+I
 eq:X=cD c.ts fac xs pl f l st
 fuel:c.ts.length<=f+st.nx
 dp:st.dp=bR.dp
 ok:st.er=none->fF en n l
theorem Dw(c:Cf)(aJ:Lw c.ts)(d:Nat)(g:St->Rx)(s:fT c.ts g)(z:ni c 278 d g):ni c 222 d (jk c.ts g):=by
 intro A f B C D E F t O
 obtain⟨k,u⟩: ∃k,Hid (k=g f):=⟨_,rfl⟩
 obtain⟨l,P⟩: ∃l,Hid (l=jk c.ts g f):=⟨_,rfl⟩
 rw[<-U P];obtain⟨aL,aN,bx⟩:=aC z s t;have Q:=t.nx;have G:=ab (z A f B C D E F t O);rw[<-U u]at G;have bz:k.2.nx<c.ts.length:=by rw[U u];exact(s f Q).lt
 have aR:k.2.dp=f.dp:=by rw[U u];exact(s f Q).dp
 clear z s t;go_enter func222,ntmps222;go_wp2_with fail;refine G.mono ?_;rintro m aT ⟨aU,aV,a0,a1,a2,a3,rfl,R,S,T,V,W,X,Y⟩
 have Z:Hid (Ga c A f B C D E F g xi (ah c.ts f.nx).place l c.ts.length aT k.1 k.2 aV a0 a1 a2 a3 aU):=
  ⟨R,S,T,V,X,W,by rw[U P,U u];rfl,by omega,aR,Y⟩
 clear R S T V W X Y G;go_wp2_with fail
 go_loopg [3] c.ts.length (fun a4 a5 wr=> ∃ac v b w n o p i,a5=.int .i64 ac/\Ga c A f B C D E F g xi (ah c.ts f.nx).place l a4 wr v b w n o p i ac)
 case atStart=>exact⟨_,_,_,_,_,_,_,_,rfl,Z⟩
 case round=>
  obtain⟨x,v,b,w,n,o,p,i,rfl,hrel⟩:=hrel;have a:=ab hrel;clear hrel Z
  match gk,a with
  |0,a=>exact absurd a.fuel (by have:=a.rf.nx;omega)
  |gk+1,a=>
   cases hz:az c.ts b xi with
   |false=>
    have q:az c.ts b [⟨#[42]⟩]=false:=hz;have H:Hid (l=(v,b)):=by have:=a.eq;unfold cD at this;rw[hz]at this;exact this
    have I:=ab q;clear hz q;go_wp2_with fail;refine(gV c _ b w ⟨#[42]⟩ n o p i (by exact a.rf)).mono ?_;rintro m ad ⟨rfl,⟨y,a9,e⟩,r⟩;unfold b8 at e;rw[U I]at e⊢;simp only[Km,Lj]at e;obtain⟨ae,J⟩:=ag e r;clear e r;go_wp2;go_ret;rw[U H];have a':=a.le;have ba:=a.few;have bb:=a.fewm;exact⟨x,y,n,o,p,i,rfl,ae,a.fr.trans (Fr.ofKp _ _ J),by omega,by omega,by omega,a.more,a.ok⟩
   |true=>
    have q:az c.ts b [⟨#[42]⟩]=true:=hz;have K:=a.rf.okHit hz;have bA:=a.rf.cor K;have bc:=bB aJ.last a.rf.nx (aW hz)
    obtain⟨j,L⟩: ∃j,Hid (j=g (aD b)):=⟨_,rfl⟩
    have aj:cG c.ts (aD b) j.2:=by rw[U L];exact aN _ bc.lt
    have ak:=ab aj;have al:(ah c.ts b.nx).text=⟨#[42]⟩:=om q;have H:Hid (l=cD c.ts g xi (ah c.ts f.nx).place gk (fZ (ah c.ts f.nx).place (ah c.ts b.nx).text::(v++j.1)) j.2):=by have:=a.eq;unfold cD at this;rw[Jo hz,<-U L]at this;exact this
    obtain⟨I,be⟩:=ag q al;have an:=a.dp;have bF:=a.rf.nx;clear hz q al aj;go_wp2_with fail;refine(gV c _ b w ⟨#[42]⟩ n o p i (by exact a.rf)).mono ?_;rintro m ad ⟨rfl,⟨y,a9,e⟩,r⟩;unfold b8 at e;rw[U I]at e⊢;simp only[Mi]at e;have bG:y=b.nx+1:=e.cor K;obtain⟨ae,J,M⟩:=aC e (a.fr.trans (Fr.ofKp _ _ r)) (aL ad (aD b) y n o p i e (by show b.dp=d;rw[an];exact O));rw[<-U L]at M;clear e r;go_wp2_with fail;refine M.mono ?_;rintro m bJ ⟨N,ao,ap,ar,bg,bL,rfl,au,av,bN,bS,bX,⟨ax,rfl⟩,ay⟩;obtain⟨bk,bl,bn⟩:=aC au (J.trans av) ay;clear au av ay M;have a':=a.le;have ba:=a.few;have bb:=a.fewm;have b0:=a.rf.few;go_wp2_with fail;refine(ng c _ j.2 ao ap ar bg _ (by exact bk) (by omega) _ _ _ _ _ _ _ _ _ _).mono ?_;rintro m b1 ⟨bq,rfl,aA,aI⟩;obtain⟨br,bs⟩:=ag aA (bl.trans aI);clear aA aI;go_wp2;go_roundg gk
    case measure=>simp
    case rel=>
     obtain⟨b2,bt⟩:=a.more;refine⟨((i++ax).length:Nat),_,j.2,ao,ap,ar,bq,_,by simp,⟨U br,bs,by omega,by rw[Jk,JZ];omega,⟨_,by rw[bt,Kf,Kf]⟩,by omega,H,?_,?_,fun m=>?_⟩⟩
     ·have b3:=a.fuel;have b4:=ak.nx;have b5:(aD b).nx=b.nx+1:=rfl;omega
     ·exact(ak.dp.trans rfl).trans an
     ·have bu:=((a.ok K).more ax).more [⟨⟨#[42]⟩,0,0,0,⟨#[]⟩,0,0,⟨#[]⟩,x,N⟩];have bv:=(bn m).more [⟨⟨#[42]⟩,0,0,0,⟨#[]⟩,0,0,⟨#[]⟩,x,N⟩];rw[U be];exact .pair _ ⟨⟨#[42]⟩,0,0,0,⟨#[]⟩,0,0,⟨#[]⟩,x,N⟩ _ _ _ (oC _ _) (Or.inl rfl) bu bv
theorem Dx(ts:List Tk)(st:St):az ts st kj=(az ts st [⟨#[43]⟩]||az ts st [⟨#[45]⟩]):=by
 have a:Lib.containsS kj (ah ts st.nx).text=(Lib.containsS [⟨#[43]⟩] (ah ts st.nx).text||Lib.containsS [⟨#[45]⟩] (ah ts st.nx).text):=by rw[KY,J8,J2,J2,J2];unfold kj;simp only[JG,JO,Kg]
 unfold az;rw[a];cases(ah ts st.nx).kind==1<;>simp
theorem Fq(c:Cf)(aV:Lw c.ts)(d:Nat)(k:St->Rx)(A:fT c.ts k)(F:ni c 222 d k):ni c 169 d (iD c.ts k kj):=by
 intro G f H I J K L B X
 obtain⟨s,C⟩: ∃s,Hid (s=k f):=⟨_,rfl⟩
 obtain⟨t,Y⟩: ∃t,Hid (t=iD c.ts k kj f):=⟨_,rfl⟩
 rw[<-U Y];obtain⟨a0,a1,b5⟩:=aC F A B;have Z:=B.nx;have M:=ab (F G f H I J K L B X);rw[<-U C]at M;have b6:s.2.nx<c.ts.length:=by rw[U C];exact(A f Z).lt
 have a2:s.2.dp=f.dp:=by rw[U C];exact(A f Z).dp
 clear F A B;go_enter func169,ntmps169;go_wp2_with fail;refine M.mono ?_;rintro e a3 ⟨a4,a5,a9,a',ba,bb,rfl,ac,ad,ae,aj,ak,al,an⟩
 have ao:Hid (Ga c G f H I J K L k kj (ah c.ts f.nx).place t c.ts.length a3 s.1 s.2 a5 a9 a' ba bb a4):=
  ⟨ac,ad,ae,aj,al,ak,by rw[U Y,U C];rfl,by omega,a2,an⟩
 clear ac ad ae aj ak al an M;go_wp2_with fail
 go_loopg [3] c.ts.length (fun bc be wr=> ∃ap D b l m g hz i,be=.int .i64 ap/\Ga c G f H I J K L k kj (ah c.ts f.nx).place t bc wr D b l m g hz i ap)
 case atStart=>exact⟨_,_,_,_,_,_,_,_,rfl,ao⟩
 case round=>
  obtain⟨E,D,b,l,m,g,hz,i,rfl,hrel⟩:=hrel;have a:=ab hrel;clear hrel ao
  match gk,a with
  |0,a=>exact absurd a.fuel (by have:=a.rf.nx;omega)
  |gk+1,a=>
   cases j:az c.ts b kj with
   |false=>
    have n:=Dx c.ts b;rw[j]at n;have u:az c.ts b [⟨#[43]⟩]=false:=(LF.1 n.symm).1;have v:az c.ts b [⟨#[45]⟩]=false:=(LF.1 n.symm).2;have N:Hid (t=(D,b)):=by have:=a.eq;unfold cD at this;rw[j]at this;exact this
    obtain⟨O,P⟩:=ag u v;clear j u v n;go_wp2_with fail;refine(lz c _ b l ⟨#[43]⟩ m g hz i (by exact a.rf)).mono ?_;rintro e bg ⟨rfl,x⟩;rw[U O];have p:=ab x;clear x;go_wp2_with fail;refine(lz c _ b l ⟨#[45]⟩ m g hz i (by exact a.rf.keep p)).mono ?_;rintro e bk ⟨rfl,y⟩;rw[U P];have z:=ab (p.trans (y.mono p.size));clear y;go_wp2;go_ret;rw[U N];have bl:=a.le;have bn:=a.few;have bq:=a.fewm;exact⟨E,l,m,g,hz,i,rfl,a.rf.keep z,a.fr.trans (Fr.ofKp _ _ (Kp.ofBelow z)),by omega,by omega,by omega,a.more,a.ok⟩
   |true=>
    have n:=Dx c.ts b;rw[j]at n;have Q:=a.rf.okHit j;have b7:=a.rf.cor Q;have br:=bB aV.last a.rf.nx (aW j)
    obtain⟨q,R⟩: ∃q,Hid (q=k (aD b)):=⟨_,rfl⟩
    have ar:cG c.ts (aD b) q.2:=by rw[U R];exact a1 _ br.lt
    have au:=ab ar;have N:Hid (t=cD c.ts k kj (ah c.ts f.nx).place gk (fZ (ah c.ts f.nx).place (ah c.ts b.nx).text::(D++q.1)) q.2):=by have:=a.eq;unfold cD at this;rw[Jo j,<-U R]at this;exact this
    obtain⟨bs,bt⟩:=ag (aW j) (qH j);have av:=a.dp;have b9:=a.rf.nx;clear j ar;cases u:az c.ts b [⟨#[43]⟩]<;>cases v:az c.ts b [⟨#[45]⟩]
    ·rw[u,v]at n;cases n
    all_goals
     obtain⟨O,P⟩:=ag u v;clear u v n;go_wp2_with fail;refine(lz c _ b l ⟨#[43]⟩ m g hz i (by exact a.rf)).mono ?_;rintro e bg ⟨rfl,x⟩;rw[U O];have p:=ab x;clear x;go_wp2_with fail;refine(lz c _ b l ⟨#[45]⟩ m g hz i (by exact a.rf.keep p)).mono ?_;rintro e bk ⟨rfl,y⟩;rw[U P];have z:=ab (p.trans (y.mono p.size));clear y;go_wp2_with fail;refine(jV c _ b l m g hz i (by exact a.rf.keep z) Q bs).mono ?_;rintro e r ⟨rfl,w,ax⟩;obtain⟨bu,bv⟩:=ag (w.keep ((Jj r.heap.size r).alloc (Ji _) (.cells #[.int .i64 (dh (ah c.ts b.nx)),.int .i64 (ah c.ts b.nx).place,.string (ah c.ts b.nx).text] 100))) (a.fr.trans (Fr.ofKp g hz (((Kp.ofBelow z).trans ax).alloc (.cells #[.int .i64 (dh (ah c.ts b.nx)),.int .i64 (ah c.ts b.nx).place,.string (ah c.ts b.nx).text] 100))));have S:=ab (a0 _ (aD b) (l+1) m g hz i (U bu) (by show b.dp=d;rw[av];exact X));rw[<-U R]at S;have b':c.qb<r.heap.size:=by obtain⟨ay,bx,_⟩:=w.query;exact aa bx
     have ca:c.rb<r.heap.size:=aa w.reader;have bz: ∀o,g.ownBlock=some o->o<r.heap.size:=by obtain⟨ay,_,_,_,_,_,bA,_⟩:=w.query;exact fun o e=>(bA.lt o e).2
     have bF: ∀o,hz.ownBlock=some o->o<r.heap.size:=by obtain⟨ay,_,_,_,_,_,_,bG⟩:=w.query;exact fun o e=>(bG.lt o e).2
     clear w ax;go_wp2_with fail;refine S.mono ?_;rintro e cb ⟨T,aA,aI,aJ,bJ,cc,rfl,aL,V,cd,ce,cf,⟨aN,rfl⟩,aR⟩;have KT:=ab ((V.block r.heap.size (by simp) (by omega) (by omega) (fun W=>by have:=bz _ W.symm;omega) (fun W=>by have:=bF _ W.symm;omega)).trans (af rfl));obtain⟨cg,ch⟩:=blk KT;have ci:=aa KT;obtain⟨bL,bN,bS⟩:=aC aL (bv.trans V) aR;clear aL V aR S;have bl:=a.le;have bn:=a.few;have bq:=a.fewm;have cj:=a.rf.few;go_wp2_with fail;refine(ng c _ q.2 aA aI aJ bJ _ (by exact bL) (by omega) _ _ _ _ _ _ _ _ _ _).mono ?_;rintro e cl ⟨bX,rfl,aT,aU⟩;obtain⟨b0,b1⟩:=ag aT (bN.trans aU);clear aT aU;go_wp2;go_roundg gk
     case measure=>simp
     case rel=>
      obtain⟨cp,b2⟩:=a.more;refine⟨((i++aN).length:Nat),_,q.2,aA,aI,aJ,bX,_,by simp,⟨U b0,b1,by omega,by rw[Jk,JZ];omega,⟨_,by rw[b2,Kf,Kf]⟩,by omega,N,?_,?_,fun e=>?_⟩⟩
      ·have cq:=a.fuel;have cr:=au.nx;have cs:(aD b).nx=b.nx+1:=rfl;omega
      ·exact(au.dp.trans rfl).trans av
      ·have b3:=((a.ok Q).more aN).more [⟨(ah c.ts b.nx).text,0,0,0,⟨#[]⟩,0,0,⟨#[]⟩,E,T⟩];have b4:=(bS e).more [⟨(ah c.ts b.nx).text,0,0,0,⟨#[]⟩,0,0,⟨#[]⟩,E,T⟩];exact .pair _ ⟨(ah c.ts b.nx).text,0,0,0,⟨#[]⟩,0,0,⟨#[]⟩,E,T⟩ _ _ _ (oC _ _) (Or.inr bt) b3 b4
theorem vK(c:Cf)(a:Lw c.ts)(g:jB c.ts): ∀(n d:Nat),n+d=17->ni c 278 d (aQ c.ts n)/\ni c 169 d (ek c.ts (aQ c.ts n))
 |n,d,b=>by
  have h:ni c 278 d (aQ c.ts n):=by
   match n,b with
   |0,b=>exact rE c a g 0 d b (fun f e=>by omega) (fun f e=>by omega)
   |f+1,b=>have i:=vK c a g f (d+1) (by omega);exact rE c a g (f+1) d b (fun j e=>by cases e;exact i.1) (fun j e=>by cases e;exact i.2)
  have k:=Dw c a d (aQ c.ts n) (cm a.last n) h;exact⟨h,Fq c a d (jk c.ts (aQ c.ts n)) (iE a.last (cm a.last n) _) k⟩
theorem Ft(c:Cf)(a:Lw c.ts)(b:jB c.ts):ni c 169 0 (bj c.ts):=(vK c a b 17 0 rfl).2
theorem Dy(c:Cf)(n:Lw c.ts)(o:jB c.ts):ni c 114 0 (bj c.ts):=by
 intro p a q r f g s d b;obtain⟨⟨K,L,M,N,O⟩,P,Q,⟨t0,t1,t2⟩,R,S,T⟩:=d.facts;have hz:({a with dp:=0}:St)=a:=by obtain⟨V,W,t⟩:=a;simp only at b;rw[b]
 have e:=d.deeper 0 (by omega);rw[hz]at e;obtain⟨u,v,w⟩:=aC e (Ft c n o) b;clear d e b hz;have i:=ab (v _ a q r f g s u w);generalize bj c.ts a=X at*;go_enter func114,ntmps114;go_wp2_with fail;refine i.mono ?_;rintro t Y ⟨x,y,z,A,B,C,rfl,j,k,D,E,F,l,m⟩;obtain⟨G,H,I,J⟩:=aP l j ((Fr.ofKp f g ((Kp.refl c.rb p).setCell 2 (.int .i64 (0:Nat)))).trans k) m;clear j k m l i;go_wp2;go_ret;exact⟨x,y,z,A,B,C,rfl,H,I,D,E,F,G,J⟩
def wM(ts:List Tk)(f:St->Rx):Prop:= ∀a,a.nx<ts.length->(f a).2.er=none->a.nx+1<=(f a).2.nx
theorem AQ{ts:List Tk}{st:St}{k:Nat}(a:(cx ts st k).er=none):(cx ts st k).nx=st.nx+1:=by unfold cx;rw[Jo (sM a)];rfl
theorem tK{ts:List Tk}(e:cO ts){one:St->Rx}(b:fT ts one)(f:wM ts one)(xs:List ByteArray):wM ts (iD ts one xs):=fun a c g=>by have h:=b a c;have d:=mL e b xs (ah ts a.nx).place ts.length (one a).1 _ h.lt;exact Jt (f a c (d.er g)) d.nx
theorem Ad{ts:List Tk}(b:cO ts): ∀n,wM ts (aQ ts n)
 |0=>fun _ _ a=>(eC a).elim
 |n+1=>fun st d a=>by
  unfold aQ at a⊢;by_cases e:az ts st jH=true
  ·rw[Jo e]at a⊢;exact(mM (cm b n) _ (bB b d (aW e)).lt).nx
  ·rw[Jn e]at a⊢;by_cases f:az ts st ju=true
   ·rw[Jo f]at a⊢;have g:=bB b d (aW f);have c:=mM (jI b (cm b n)) _ g.lt;exact Jt c.nx (aM b c.lt _).nx
   ·rw[Jn f]at a⊢;by_cases h:(ah ts st.nx).kind=3
    ·rw[Jo h]at a⊢;exact MN (AQ a).symm
    ·rw[Jn h]at a⊢;have g:=dx b d (k:=2) (by decide);have c:=aM b g.lt [⟨#[46]⟩];have i:=dx b c.lt (k:=2) (by decide);have j:=c.er (i.er a);exact Jt (MN (AQ j).symm) (Jt c.nx i.nx)
theorem BO{ts:List Tk}(a:cO ts):wM ts (bj ts):=tK a (iE a (cm a 17) _) (tK a (cm a 17) (Ad a 17) _) _
theorem RF.grownL{c:Cf}{w w':World}{st:St}{I:Nat}{k:List Nat}{g h v:Value}{l:List RE}(a:RF c w st I k g h l)(m:w.grownBy w' v.ownBlock)(f: ∀b,v.ownBlock=some b->b≠c.rb/\b≠c.qb/\b≠c.tb/\g.ownBlock≠some b/\h.ownBlock≠some b):RF c w' st I k g h l:=by
 obtain⟨y,n,z,A,B,C,D,E⟩:=a.query;obtain⟨F,o,G⟩:=a.tokens;have keepB: ∀e,e<w.heap.size->v.ownBlock≠some e->w'.heap[e]? =w.heap[e]? :=fun e H J=>m.block e H (fun d=>J d.symm);have p: ∀ {q:Nat} {d:TypeId} {size:Nat} {i:Value} {r:Nat} {s:List Value},w.ownsRow q d size i r s->(∀b,v.ownBlock=some b->i.ownBlock≠some b)->w'.ownsRow q d size i r s:=fun t K=>by refine⟨t.1,t.2.imp id ?_⟩;rintro⟨j,L,M,u,N,x,O⟩;refine⟨j,L,M,u,N,(keepB j (aa x) (fun d=>?_)).trans x,O⟩;exact K j d (by rw[u];rfl)
 exact⟨a.len,a.last,a.kinds,a.nx,a.inx,a.cor,a.stop,a.dp,a.ne,a.low,Jt a.top m.size,(keepB _ (aa a.reader) (fun d=>(f _ d).1 rfl)).trans a.reader,a.few,
  ⟨y,(keepB _ (aa n) (fun d=>(f _ d).2.1 rfl)).trans n,z,A,B,C,p D (fun b d=>(f b d).2.2.2.1),p E (fun b d=>(f b d).2.2.2.2)⟩,⟨F,(keepB _ (aa o) (fun d=>(f _ d).2.2.1 rfl)).trans o,G⟩⟩
structure Xs where
 I:Nat
 ms:List Nat
 mv:Value
 ev:Value
 en:List RE
def RX(c:Cf)(w:World)(st:St)(x:Xs):Prop:=RF c w st x.I x.ms x.mv x.ev x.en
structure GX(c:Cf)(w:World)(x:Xs)(w':World)(x':Xs):Prop where
 fr:Fr c w x.mv x.ev w' x'.mv x'.ev
 le:x.I<=x'.I
 few:x'.en.length+x.I<=x.en.length+x'.I
 more: ∃ys,x'.en=x.en++ys
 fewm:x'.ms.length+x.I<=x.ms.length+x'.I
theorem GX.ofKp{c:Cf}{w w':World}{x:Xs}{I':Nat}(a:Kp c.rb w w')(b:x.I<=I'):GX c w x w' {x with I:=I'}:=⟨Fr.ofKp _ _ a,b,by show x.en.length+x.I<=x.en.length+I';omega,⟨[],(JD _).symm⟩,by show x.ms.length+x.I<=x.ms.length+I';omega⟩
theorem GX.refl(c:Cf)(w:World)(x:Xs):GX c w x w x:=⟨Fr.ofKp _ _ (Kp.refl _ _),Ji _,Ji _,⟨[],(JD _).symm⟩,Ji _⟩
theorem GX.trans{c:Cf}{a b d:World}{x f g:Xs}(e:GX c a x b f)(k:GX c b f d g):GX c a x d g:=by have m:=e.le;have n:=e.few;have o:=e.fewm;have p:=k.le;have q:=k.few;have r:=k.fewm;obtain⟨h,i⟩:=e.more;obtain⟨j,l⟩:=k.more;exact⟨e.fr.trans k.fr,by omega,by omega,⟨h++j,by rw[l,i,Kf]⟩,by omega⟩
theorem GX.size{c:Cf}{w w':World}{x x':Xs}(a:GX c w x w' x'):w.heap.size<=w'.heap.size:=a.fr.size
structure iR(c:Cf)(x:Xs)(k:Nat):Prop where
 rb:k≠c.rb
 qb:k≠c.qb
 tb:k≠c.tb
 mv:x.mv.ownBlock≠some k
 ev:x.ev.ownBlock≠some k
theorem RX.off{c:Cf}{w:World}{st:St}{x:Xs}(a:RX c w st x){k:Nat}(h:w.heap.size<=k):iR c x k:=by obtain⟨i,d,_,_,_,_,e,f⟩:=RF.query a;obtain⟨j,g,_⟩:=RF.tokens a;have l:=aa (RF.reader a);have m:=aa d;have n:=aa g;exact⟨by omega,by omega,by omega,fun b=>by have:=(e.lt k b).2;omega,fun b=>by have:=(f.lt k b).2;omega⟩
theorem GX.off{c:Cf}{w w':World}{x x':Xs}(b:GX c w x w' x'){k:Nat}(f:k<w.heap.size)(a:iR c x k):iR c x' k:=
 ⟨a.rb,a.qb,a.tb,fun e=>(b.fr.mnew k e).elim a.mv (fun d=>by omega),fun e=>(b.fr.enew k e).elim a.ev (fun d=>by omega)⟩
theorem GX.block{c:Cf}{w w':World}{x x':Xs}(b:GX c w x w' x'){k:Nat}(d:k<w.heap.size)(a:iR c x k):w'.heap[k]? =w.heap[k]? :=
 b.fr.block k d a.rb a.qb (fun e=>a.mv e.symm) (fun e=>a.ev e.symm)
theorem RX.kpb{c:Cf}{w w':World}{st:St}{x:Xs}{k:Nat}(f:RX c w st x)(a:Kp k w w')(b:iR c x k):RX c w' st x:=
 RF.grownL (v:=.slice (some ⟨k,0,none⟩) 0 0) f ⟨a.os,a.tape,a.output,a.size,fun d g h=>a.block d g (fun e=>h (by rw[e];rfl))⟩ (fun d e=>by
  have i:k=d:=by simpa [Value.ownBlock]using e
  subst i
  exact⟨b.rb,b.qb,b.tb,b.mv,b.ev⟩)
theorem RX.keep{c:Cf}{w w':World}{st:St}{x:Xs}(a:RX c w st x)(b:Below w.heap.size w w'):RX c w' st x:=RF.keep a b
theorem RX.grown{c:Cf}{w w':World}{st:St}{x:Xs}{v:Value}(d:RX c w st x)(f:w.grownBy w' v.ownBlock)(a: ∀b,v.ownBlock=some b->iR c x b):RX c w' st x:=
 RF.grownL d f (fun b e=>⟨(a b e).rb,(a b e).qb,(a b e).tb,(a b e).mv,(a b e).ev⟩)
theorem Fr.kpNew{c:Cf}{f w w':World}{m e g h:Value}{k:Nat}(a:Fr c f m e w g h)(d:Kp k w w')(hn:f.heap.size<=k):Fr c f m e w' g h:=
 ⟨d.os.trans a.os,d.tape.trans a.tape,d.output.trans a.output,Jt a.size d.size,fun b j n o p q=>(d.block b (Js j a.size) (by omega)).trans (a.block b j n o p q),a.mnew,a.enew,fun r s l i t=>(mz (d.block _ (Js l a.size) (by omega)) i).trans (a.qk r s l i t)⟩
theorem GX.kpNew{c:Cf}{b w w':World}{x x':Xs}{k:Nat}(a:GX c b x w x')(d:Kp k w w')(hn:b.heap.size<=k):GX c b x w' x':=⟨a.fr.kpNew d hn,a.le,a.few,a.more,a.fewm⟩
theorem GX.below{c:Cf}{a w w':World}{x x':Xs}(b:GX c a x w x')(d:Below w.heap.size w w'):GX c a x w' x':=
 b.kpNew (k:=w.heap.size) (Kp.ofBelow d) b.size
theorem GX.grown{c:Cf}{f w w':World}{x x':Xs}{v:Value}(a:GX c f x w x')(d:w.grownBy w' v.ownBlock)(hn: ∀b,v.ownBlock=some b->f.heap.size<=b):GX c f x w' x':=
 ⟨⟨d.os.trans a.fr.os,d.tape.trans a.fr.tape,d.output.trans a.fr.output,Jt a.fr.size d.size,fun b g j k l m=>(d.block b (Js g a.fr.size) (fun e=>by have:=hn b e.symm;omega)).trans (a.fr.block b g j k l m),a.fr.mnew,a.fr.enew,fun n o h i p=>(mz (d.block _ (Js h a.fr.size) (fun e=>by have:=hn _ e.symm;omega)) i).trans (a.fr.qk n o h i p)⟩,a.le,a.few,a.more,a.fewm⟩
theorem oD(c:Cf)(a:Lw c.ts)(b:jB c.ts)(w:World)(st:St)(x:Xs)(d:RX c w st x)(f:st.dp=0):
  Calls prog 114 #[.pointer (some ⟨c.rb,0,none⟩)] w fun e w'=> ∃(n:Int) (x':Xs),e=.returned (.int .i64 n)/\RX c w' (bj c.ts st).2 x'/\GX c w x w' x'/\((bj c.ts st).2.er=none->fF x'.en n (bj c.ts st).1):=by
 refine(Dy c a b w st x.I x.ms x.mv x.ev x.en d f).mono ?_;rintro e w' ⟨n,g,h,i,j,k,rfl,l,m,o,p,q,r,s⟩;exact⟨n,⟨g,h,i,j,k⟩,rfl,l,⟨m,o,p,r,q⟩,s⟩
theorem eJ(c:Cf)(w:World)(st:St)(x:Xs)(a:ByteArray)(b:RX c w st x):
  Calls prog 112 #[.pointer (some ⟨c.rb,0,none⟩),.string a] w fun e w'=> ∃x':Xs,e=.returned (.tuple #[])/\RX c w' (aH c.ts st [a]) x'/\GX c w x w' x':=by
 refine(iO c w st x.I a x.ms x.mv x.ev x.en b).mono ?_;rintro e w' ⟨rfl,⟨d,f,g⟩,h⟩;exact⟨{x with I:=d},rfl,g,GX.ofKp h f⟩
theorem kO(c:Cf)(w:World)(st:St)(x:Xs)(a:ByteArray)(b:RX c w st x):
  Calls prog 67 #[.pointer (some ⟨c.rb,0,none⟩),.string a] w fun e w'=> ∃x':Xs,e=.returned (.bool (az c.ts st [a]))/\RX c w' (b8 c.ts st [a]) x'/\GX c w x w' x':=by
 refine(gV c w st x.I a x.ms x.mv x.ev x.en b).mono ?_;rintro e w' ⟨rfl,⟨d,f,g⟩,h⟩;exact⟨{x with I:=d},rfl,g,GX.ofKp h f⟩
theorem qP(c:Cf)(w:World)(st:St)(x:Xs)(k:Nat)(f:RX c w st x)(d:k=2∨k=3):
  Calls prog 111 #[.pointer (some ⟨c.rb,0,none⟩),.int .i64 k] w fun e w'=> ∃(a b:Int) (x':Xs),e=.returned (.agg #[.int .i64 a,.int .i64 b,.string (bP c.ts st k).text])/\RX c w' (cx c.ts st k) x'/\GX c w x w' x'/\((cx c.ts st k).er=none->b=(bP c.ts st k).place):=by
 refine(ql c w st x.I k x.ms x.mv x.ev x.en f d).mono ?_;rintro e w' ⟨⟨a,b,rfl,g⟩,⟨h,i,j⟩,d⟩;exact⟨a,b,{x with I:=h},rfl,j,GX.ofKp d i,g⟩
theorem GO(c:Cf)(w:World)(st:St)(x:Xs)(a:RX c w st x):
  Calls prog 70 #[.pointer (some ⟨c.rb,0,none⟩),.int .i64 4] w fun e w'=> ∃x':Xs,e=.returned (.tuple #[])/\RX c w' (bM c.ts st bE) x'/\GX c w x w' x':=by
 refine(iN c w st x.I x.ms x.mv x.ev x.en a).mono ?_;rintro e w' ⟨rfl,b,d⟩;exact⟨{x with I:=x.I},rfl,b,GX.ofKp d (Ji _)⟩
theorem yB(c:Cf)(w:World)(st:St)(x:Xs)(a:RX c w st x):
  Calls prog 70 #[.pointer (some ⟨c.rb,0,none⟩),.int .i64 9] w fun e w'=> ∃x':Xs,e=.returned (.tuple #[])/\RX c w' (bM c.ts st cB) x'/\GX c w x w' x':=by
 refine(mn c w st x.I x.ms x.mv x.ev x.en a).mono ?_;rintro e w' ⟨rfl,b,d⟩;exact⟨{x with I:=x.I},rfl,b,GX.ofKp d (Ji _)⟩
theorem AR(c:Cf)(w:World)(st:St)(x:Xs)(b:RX c w st x)(d:st.er=none)(a:(ah c.ts st.nx).kind≠0):
  Calls prog 110 #[.pointer (some ⟨c.rb,0,none⟩)] w fun e w'=> ∃x':Xs,e=.returned (Fl (ah c.ts st.nx))/\RX c w' (aD st) x'/\GX c w x w' x':=by
 refine(jV c w st x.I x.ms x.mv x.ev x.en b d a).mono ?_;rintro e w' ⟨rfl,f,a⟩;exact⟨{x with I:=x.I+1},rfl,f,GX.ofKp a (KN _)⟩
def jC{a:Type}(ts:List Tk)(one:St->a×St)(b:Nat->St->St)(sep:ByteArray):Nat->List a->St->List a×St
 |0,l,st=>(l,st)
 |f+1,l,st=>if az ts st [sep]then jC ts one b sep f (l++[(one (b l.length (aD st))).1]) (one (b l.length (aD st))).2 else(l,st)
theorem kP{b:Type}(ts:List Tk)(one:St->b×St)(a:Nat): ∀(f:Nat) (l:List b) (st:St),cA ts one a f l st=jC ts one (many ts a) ⟨#[44]⟩ f l st
 |0,_,_=>rfl
 |f+1,l,st=>by unfold cA jC;rw[kP ts one a f];rfl
theorem vL(ts:List Tk): ∀(f:Nat) (l:List cn) (st:St),eU ts f l st=jC ts (eE ts) (fun _ s=>s) ⟨#[97,110,100]⟩ f l st
 |0,_,_=>rfl
 |f+1,l,st=>by unfold eU jC;rw[vL ts f]
structure kQ{α:Type}(c:Cf)(w:World)(x0:Xs)(one:St->α×St)(mny:Nat->St->St)(sep:ByteArray)(X:List α×St)(f:Nat)(W:World)(l:List α)(st:St)(x:Xs)(more:Bool):Prop where
 rx:RX c W st x
 gx:GX c w x0 W x
 eq:X=if more then jC c.ts one mny sep f (l++[(one (mny l.length st)).1]) (one (mny l.length st)).2 else(l,st)
 fuel:more=true->c.ts.length<=f+st.nx
 dp:st.dp=0
theorem AS{ts:List Tk}{st:St}{xs:List ByteArray}(e:(b8 ts st xs).er=none):st.er=none:=by unfold b8 at e;split at e<;>exact e
theorem kQ.round{d:Type}{c:Cf}{w:World}{e:Xs}{one:St->d×St}{g:Nat->St->St}{sep:ByteArray}{X:List d×St}{f:Nat}{W h:World}{l:List d}{st:St}{x i:Xs}(j:kQ c w e one g sep X (f+1) W l st x true)
  {S:St} (p:S=g l.length st) (q:S.dp=st.dp) (s:st.nx<=S.nx) (k:cG c.ts S (one S).2) (m:GX c w e h i) (b:RX c h (b8 c.ts (one S).2 [sep]) i):
  kQ c w e one g sep X f h (l++[(one S).1]) (b8 c.ts (one S).2 [sep]) i (az c.ts (one S).2 [sep]):=by
 have a:=j.eq;rw[Jo rfl,<-p]at a;unfold jC at a;have n:(one S).2.dp=0:=k.dp.trans (q.trans j.dp);have t:=j.fuel rfl;have u:=k.nx;unfold b8 at b⊢
 cases o:az c.ts (one S).2 [sep]with
 |true=>
  rw[o]at a b;simp only[Mi]at a b⊢;refine⟨b,m,by rw[Jo rfl];exact a,fun _=>?_,n⟩
  show c.ts.length<=f+((one S).2.nx+1)
  omega
 |false=>rw[o]at a b;simp only[Km,Lj]at a b⊢;exact⟨b,m,by rw[a];rfl,(fun r=>by cases r),n⟩
theorem kQ.first{d:Type}{c:Cf}{w W:World}{b x:Xs}{bR:St}(one:St->d×St)(a:Nat->St->St)(sep:ByteArray)(e:RX c W bR x)(f:GX c w b W x)(g:bR.dp=0)(h:a 0 bR=bR):kQ c w b one a sep (jC c.ts one a sep c.ts.length [(one bR).1] (one bR).2) c.ts.length W [] bR x true:=
 ⟨e,f,by rw[Jo rfl,Kr,h];rfl,fun _=>Nat.le_add_right _ _,g⟩
theorem kQ.done{a:Type}{c:Cf}{w:World}{d:Xs}{one:St->a×St}{e:Nat->St->St}{sep:ByteArray}{X:List a×St}{f:Nat}{W:World}{l:List a}{st:St}{x:Xs}(g:kQ c w d one e sep X f W l st x false):X=(l,st):=by have b:=g.eq;simp only[Km,Lj]at b;exact b
theorem oE{ts:List Tk}{st S S':St}{sep:ByteArray}(d:S=st∨S.er≠none)(f:cG ts S S')(e:(b8 ts S' [sep]).er=none):S'.er=none/\S=st/\st.er=none:=by have a:=AS e;have b:=f.er a;have c:S=st:=d.elim id (fun g=>(g b).elim);exact⟨a,c,c▸b⟩
theorem kQ.pos{a:Type}{c:Cf}{w:World}{d:Xs}{one:St->a×St}{e:Nat->St->St}{sep:ByteArray}{X:List a×St}{f:Nat}{W:World}{l:List a}{st:St}{x:Xs}(b:kQ c w d one e sep X f W l st x true): ∃g,f=g+1:=by have h:=b.fuel rfl;have i:=RF.nx b.rx;exact⟨f-1,by omega⟩
theorem jW{ts:List Tk}{a n:Nat}{st:St}(b:n≠a):many ts a n st=st:=by unfold many;rw[Jn b]
theorem uN{ts:List Tk}{a n:Nat}{st:St}:many ts a n st=st∨(many ts a n st).er≠none:=by
 unfold many;split
 ·exact Or.inr (fun b=>eC b)
 ·exact Or.inl rfl
theorem oF{ts:List Tk}{a n:Nat}{st:St}:(many ts a n st).dp=st.dp:=by unfold many;split<;>rfl
theorem uO{ts:List Tk}{a n:Nat}{st:St}(b:st.nx<ts.length):st.nx<=(many ts a n st).nx:=(eh b a n).nx
theorem yC{c:Cf}{w w':World}{x x':Xs}{a:Nat}{e:TypeId}{size:Nat}{v:Value}{n:Nat}{xs:List Value}(d:w.ownsRow a e size v n xs)(i:GX c w x w' x')(j: ∀b,v.ownBlock=some b->iR c x b):w'.ownsRow a e size v n xs:=by refine⟨d.1,d.2.imp id ?_⟩;rintro⟨f,k,l,g,m,h,o⟩;exact⟨f,k,l,g,m,(i.block (aa h) (j f (by rw[g];rfl))).trans h,o⟩
def nP(xs:List RE):List Int->List (List Nd)->Prop
 | [],[]=>True
 |n::a,k::b=>fF xs n k/\nP xs a b
 |_,_=>False
theorem nP.more{xs:List RE}(a:List RE): ∀ {b:List Int} {c:List (List Nd)},nP xs b c->nP (xs++a) b c
 | [],[],_=>trivial
 |_::_,_::_,d=>⟨d.1.more a,nP.more a d.2⟩
theorem nP.snoc{xs:List RE}{n:Int}{k:List Nd}(hn:fF xs n k): ∀ {a:List Int} {b:List (List Nd)},nP xs a b->nP xs (a++[n]) (b++[k])
 | [],[],_=>⟨hn,trivial⟩
 |_::_,_::_,c=>⟨c.1,nP.snoc hn c.2⟩
theorem GX.re{c:Cf}{w w':World}{x x':Xs}(a:GX c w x w' x'){n:Int}{k:List Nd}(b:fF x.en n k):fF x'.en n k:=by obtain⟨d,e⟩:=a.more;rw[e];exact b.more d
theorem GX.rl{c:Cf}{w w':World}{x x':Xs}(d:GX c w x w' x'){a:List Int}{b:List (List Nd)}(e:nP x.en a b):nP x'.en a b:=by obtain⟨f,g⟩:=d.more;rw[g];exact e.more f
structure Jd(c:Cf)(w:World)(x0:Xs)(X:List (List Nd)×St)(f:Nat)(W:World)(v:Value)(ns:List Int)(l:List (List Nd))(st:St)(x:Xs)(more:Bool):Prop where
 ls:kQ c w x0 (bj c.ts) (many c.ts 1000) ⟨#[44]⟩ X f W l st x more
 row:W.ownsRow w.heap.size 3 1 v l.length (ns.map (Value.int .i64))
 ok:st.er=none->nP x.en ns l
 off: ∀b,v.ownBlock=some b->iR c x b
 bnd:more=true->2*l.length<=st.nx
theorem yD(c:Cf)(A:Lw c.ts)(B:jB c.ts)(w:World)(st:St)(x:Xs)(s:RX c w st x)(ap:st.dp=0):
  Calls prog 168 #[.pointer (some ⟨c.rb,0,none⟩)] w fun e w'=> ∃(hz:Option Addr) (n i:Nat) (x':Xs) (g:List Int),e=.returned (.slice hz n i)/\w'.ownsRow w.heap.size 3 1 (.slice hz n i) n (g.map (Value.int .i64))/\(∀b,(Value.slice hz n i).ownBlock=some b->iR c x' b)/\RX c w' (dE c.ts (bj c.ts) 1000 st).2 x'/\GX c w x w' x'/\((dE c.ts (bj c.ts) 1000 st).2.er=none->nP x'.en g (dE c.ts (bj c.ts) 1000 st).1):=by
 obtain⟨ar,C,D⟩:=Jq.1 Dv;simp only[JB]at D;obtain⟨E,F,G⟩:=D;obtain⟨au,av,ax,ay⟩:=aP C E F G;clear C E F G
 obtain⟨m,H⟩: ∃m,Hid (m=dE c.ts (bj c.ts) 1000 st):=⟨_,rfl⟩
 rw[<-U H];have t:=ab (kQ.first (bj c.ts) (many c.ts 1000) ⟨#[44]⟩ s (GX.refl c w x) ap (jW (by decide)));rw[show jC c.ts (bj c.ts) (many c.ts 1000) ⟨#[44]⟩ c.ts.length [(bj c.ts st).1] (bj c.ts st).2=m by rw[U H];unfold dE;rw[kP]]at t;have ba:=RF.len s;obtain⟨aA,I⟩:=ag (oD c A B) A;clear s B;go_enter func168,ntmps168;go_wp2_with fail
 go_loopg [3,4] c.ts.length (fun aI aJ aL wr=> ∃g f d x' o,aL=.bool o/\Jd c w x m aI wr aJ g f d x' o)
 case atStart=>exact⟨[],[],st,x,true,rfl,⟨U t,JF _ _ _ _,fun _=>trivial,(fun b e=>by cases e),(fun _=>KO _)⟩⟩
 case round=>
  obtain⟨g,f,d,x',o,rfl,hrel⟩:=hrel;have a:=ab hrel;clear t
  cases o with
  |false=>have j:=hrel.row;obtain⟨hz,i,u⟩:=a8 j;subst u;clear j hrel;go_wp2;go_ret;have J:=a.ls.done;refine⟨_,_,_,x',g,rfl,a.row,a.off,by rw[J];exact a.ls.rx,a.ls.gx,fun e=>?_⟩;rw[J]at e⊢;exact a.ok e
  |true=>
   obtain⟨gk,rfl⟩:=hrel.ls.pos;have v:=hrel.ls.rx;have K:=RF.nx v;obtain⟨L,aN⟩:=ag (dn I.last d K) (BO I.last d K);have j:=hrel.row;obtain⟨hz,i,u⟩:=a8 j;subst u;obtain⟨y,M⟩:=ag j (aA wr d x' v hrel.ls.dp);have bb:=hrel.bnd rfl;clear j hrel v;generalize N:bj c.ts d=O at*;have aR:=ab N;clear N;go_wp2_with fail;refine M.mono ?_;rintro e aT ⟨P,k,rfl,Q,l,R⟩;obtain⟨T,V,aU,aV⟩:=aP Q l R (yC y l a.off);have bc:=l.size;have be:=a.ls.gx.size;have bg:f.length<=1001:=by omega
   have W:Hid (∀b,(Value.slice hz f.length i).ownBlock=some b->iR c k b):=fun b e=>l.off (y.lt b e).2 (a.off b e);clear Q l R M;go_wp2_with (at_builtin;refine JT _ rfl _ _ 32 rfl w.heap.size 3 ar (.int .i64 0) 1 8 underlying32 au av ax ay rfl (by decide) _ _ _ rfl (aV.alloc _) ⟨aT.heap.size,0,none⟩ 1 1 [.int .i64 P] rfl rfl ?c1 ?c2 (by decide) ?c3 ?c4 ?c5 _ rfl ?_)
   case c1=>exact cQ rfl
   case c2=>exact BL _
   case c3=>unfold maxLen;omega
   case c4=>omega
   case c5=>simp;omega
   intro p X Y Z z ac _;have ad:=ab Z;have ae:Hid (RX c Y O.2 k):=(T.keep ((Jj _ _).alloc (Ji _) _)).grown z W;have a0:Hid (GX c w x Y k):=((a.ls.gx.trans V).below ((Jj _ _).alloc (Ji _) _)).grown z (fun b e=>(y.lt b e).1)
   have aj:Hid (∀b,(Value.slice (some ⟨p,0,none⟩) (f.length+1) X).ownBlock=some b->iR c k b):=fun b e=>by
    have a1:p=b:=by simpa [Value.ownBlock]using e
    subst a1;rcases ac with q|q
    ·exact W p q
    ·exact T.off (by rw[q];simp)
   clear Z z ac;go_wp2_with fail;refine(kO c _ O.2 k ⟨#[44]⟩ (by exact ae)).mono ?_;rintro e bk ⟨ak,rfl,al,r⟩;obtain⟨a2,an,a3⟩:=aC al r (yC ad r aj);have a4:Hid (∀b,(Value.slice (some ⟨p,0,none⟩) (f.length+1) X).ownBlock=some b->iR c ak b):=fun b e=>r.off (ad.lt b e).2 (aj b e);clear al r;go_wp2;go_roundg gk
   case measure=>simp
   case rel=>
    obtain rfl:=U aR;refine⟨g++[P],f++[(bj c.ts d).1],b8 c.ts (bj c.ts d).2 [⟨#[44]⟩],ak,az c.ts (bj c.ts d).2 [⟨#[44]⟩],rfl,⟨?_,by rw[Jk,Ks];exact U a3,fun e=>?_,a4,fun ao=>?_⟩⟩
    ·exact a.ls.round (S:=d) (jW (by omega)).symm rfl (Ji _) L (a0.trans an) a2
    ·obtain⟨a5,-,a9⟩:=oE (Or.inl rfl) L e;exact an.rl (nP.snoc (aU a5) (V.rl (a.ok a9)))
    ·have a':=RF.okHit ae ao;have bl:=(U aN) a';unfold b8;rw[Jo ao,Jk]
     show 2*(f.length+1)<=(bj c.ts d).2.nx+1
     omega
end
end Go.Proofs.YtfkeddkfegaeiaaGreatDoor
