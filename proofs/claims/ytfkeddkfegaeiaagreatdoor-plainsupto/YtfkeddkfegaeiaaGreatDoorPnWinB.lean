import Derived.Test.YtfkeddkfegaeiaaGreatDoorPnExC
set_option maxRecDepth 100000
set_option maxHeartbeats 20000000
namespace Go.Proofs.YtfkeddkfegaeiaaGreatDoor
section
open Go.RowKit Tryz
structure WS(c:Cx)(w:World)(p:Nat)(call:ByteArray)(W:World)(st:St)(ev o a d r:Value):Prop where
 rs:RS c W st ev
 kp:Kp c.rb w W
 box:W.heap[w.heap.size+1]? =some (.cells #[.int .i64 p,.string call,o,a,d,r] 388 (0,0))
 old:c.rb<w.heap.size/\c.tb<w.heap.size/\c.B<=w.heap.size
theorem WS.step{c:Cx}{w:World}{p:Nat}{e:ByteArray}{W W':World}{st st':St}{h f o a d r:Value}(b:WS c w p e W st h o a d r)(i:RS c W' st' f)(g:Kp c.rb W W'):WS c w p e W' st' f o a d r:=
 ⟨i,b.kp.trans g,(g.block _ (aa b.box) (by have:=b.old.1;omega)).trans b.box,b.old⟩
theorem WS.keeps{c:Cx}{w:World}{p:Nat}{b:ByteArray}{W W':World}{st:St}{e o a d r:Value}(f:WS c w p b W st e o a d r)(g:Kp c.rb W W'):aw dL (w.heap.size+2) W W':=f.rs.keeps g rfl
theorem WS.set{c:Cx}{w:World}{p:Nat}{e:ByteArray}{W:World}{st:St}{f o a d r g h j k u:Value}{i:Nat}(b:WS c w p e W st f o a d r)
  (l: #[.int .i64 p,.string e,o,a,d,r].setIfInBounds i u= #[.int .i64 p,.string e,g,h,j,k]):WS c w p e (W.setCell ⟨w.heap.size+1,i,none⟩ u) st f g h j k:=by
 have m:=b.old;refine⟨b.rs.kpb ((Kp.refl _ _).setCell _ _) (by omega) (by omega) (by omega) (fun p n=>by rw[b.box];simp),b.kp.setNew (by show w.heap.size<=w.heap.size+1;omega) _,?_,b.old⟩;rw[am b.box,l]
theorem WS.setKeeps{w W:World}{i:Nat}{u:Value}:aw dL (w.heap.size+2) W (W.setCell ⟨w.heap.size+1,i,none⟩ u):=aw.ofKp ((Kp.refl (w.heap.size+1) W).setCell i u) (Or.inl (by omega))
theorem WS.lo{c:Cx}{w:World}{p:Nat}{b:ByteArray}{W:World}{st:St}{e o a d r:Value}(f:WS c w p b W st e o a d r):w.heap.size+2<=W.heap.size:=by have:=aa f.box;omega
theorem jQ.one{v:Value}(a:jQ v):v.oneCell'=true:=by rcases a with rfl|⟨q,z,rfl⟩<;>rfl
theorem Bd(c:Cx)(w:World)(st:St)(bq:Value)(p:Nat)(n:ByteArray)(X:oR×St)(g:RS c w st bq)(ay:st.dp=0)(cb:Hid (X=lT c.ts st p n)):
  Calls prog 217 #[.pointer (some ⟨c.rb,0,none⟩),.agg #[.int .i64 p],.string n] w fun e w'=> ∃b,e=.returned (.pointer (some ⟨b,0,none⟩))/\eO c w X.2 w'/\(X.2.er=none->qD w' w.heap.size (.pointer (some ⟨b,0,none⟩)) X.1):=by
 have j:=ab g.last
 have br:c.rb<w.heap.size/\c.tb<w.heap.size/\c.B<=w.heap.size:=⟨aa g.reader,by obtain⟨c5,cc,_⟩:=g.tokens;exact aa cc,g.env.size⟩
 obtain⟨bs,aA⟩:=ag br g;clear g br;have bt:=aM j aA.nx [⟨#[40]⟩]
 obtain⟨q,R⟩: ∃q,Hid (q=mP c.ts st n):=⟨_,rfl⟩
 have aI:=ab (og j aA.nx n);rw[<-U R]at aI;have cd:=ab bt;clear bt;go_enter func217,ntmps217;go_wp2_with fail;refine(dv c _ st bq (w.heap.size+1+1) [⟨#[40]⟩] (by exact((aA.alloc _).alloc _).alloc _) (by exact bo (by simp) (fun l m=>by match l,m with|0,_=>rfl)) (by simp) (dt (by decide))).mono ?_;rintro e bu ⟨rfl,⟨aJ,d⟩,a⟩
 have F:WS c w p n bu (aH c.ts st [⟨#[40]⟩]) aJ .nilIface (.slice none 0 0) (.slice none 0 0) (.pointer none):=
  ⟨d,((((Kp.refl c.rb w).alloc _).alloc _).alloc _).trans a,(a.block (w.heap.size+1) (by simp) (by have:=bs.1;omega)).trans (ai (af (by simp))),bs⟩
 have A:=ab F;clear d a F;generalize f:aH c.ts st [⟨#[40]⟩]=G at*;have bv:=ab f;clear f;have ce:G.dp=0:=cd.dp.trans ay
 go_upto_region 3 with(fail)
 go_cut [20]from 15 to 20 (fun cf S=>S=bu/\cf=.bool (fV n))
 case first=>
  cases aL:(n.toList== [114,111,119,95,110,117,109,98,101,114])with
  |true=>
   go_wp2_with fail;go_meet
   case rel=>exact⟨rfl,by unfold fV;rw[aL];rfl⟩
  |false=>
   cases bx:(n.toList== [99,111,117,110,116])with
   |true=>
    go_wp2_with fail;go_meet
    case rel=>exact⟨rfl,by unfold fV;rw[aL,bx];rfl⟩
   |false=>
    go_wp2_with fail;go_meet
    case rel=>exact⟨rfl,by unfold fV;rw[aL,bx];rfl⟩
 case rest=>
  obtain⟨rfl,rfl⟩:=hcut
  go_upto_if 20 with(fail)
  go_cut []from 20 to 25 (fun S=> ∃H o,WS c w p n S q.2 H o (.slice none 0 0) (.slice none 0 0) (.pointer none)/\(q.2.er=none->um S (w.heap.size+2) o q.1))
  case first=>
   cases T:fV n with
   |false=>
    have aN:Hid (q=(none,G)):=by have:=U R;unfold mP at this;rw[T,U bv]at this;exact this
    clear T;go_wp2_with fail;go_meet
    case rel=>rw[U aN];exact⟨aJ,.nilIface,A,fun _=>rfl⟩
   |true=>
    have aN:Hid (q=(some (bj c.ts G).1,(bj c.ts G).2)):=by have:=U R;unfold mP at this;rw[T,U bv]at this;exact this
    clear T;go_wp2_with fail;refine(gO c j _ G aJ (by exact A.rs) ce).mono ?_;rintro e c6 ⟨c7,rfl,cg,⟨⟨H,d⟩,a⟩,hex⟩;have V:=A.step d a;have B:=ab V;obtain⟨W,f2⟩:=blk V.box;have c8:=aa V.box;have ch:=ab hex;clear d a V hex;rcases cg with rfl|⟨uq,zq,rfl⟩
    all_goals
     go_wp2_with fail;go_meet
     case rel=>rw[U aN];refine⟨H,_,B.set rfl,fun I=>?_⟩;exact um.keep (o:=some _) (ch I) A.lo (WS.setKeeps.mono (fun _ g=>g) A.lo)
  case rest=>
   obtain⟨H,o,F,bz⟩:=hcut;obtain⟨B,bA⟩:=ag F bz;clear F bz A;go_wp2_with fail;refine(dv c _ q.2 H wc.heap.size [⟨#[41]⟩] (by exact B.rs.alloc _) (by exact bo rfl (fun l m=>by match l,m with|0,_=>rfl)) (by simp) (dt (by decide))).mono ?_;rintro e J ⟨rfl,⟨ci,d⟩,a⟩;obtain⟨Y,Z⟩:=ag (B.step d (((Kp.refl c.rb wc).alloc _).trans a)) (aM j B.rs.nx [⟨#[41]⟩]);have bF:Hid (aw dL (w.heap.size+2) wc J):=B.keeps (((Kp.refl c.rb wc).alloc _).trans a);clear d a;generalize f:aH c.ts q.2 [⟨#[41]⟩]=bG at*;have cj:=ab f;clear f;go_wp2_with fail;refine(dv c _ bG ci J.heap.size [⟨#[111,118,101,114]⟩] (by exact Y.rs.alloc _) (by exact bo rfl (fun l m=>by match l,m with|0,_=>rfl)) (by simp) (dt (by decide))).mono ?_;rintro e K ⟨rfl,⟨cl,d⟩,a⟩;obtain⟨ac,ad⟩:=ag (Y.step d (((Kp.refl c.rb J).alloc _).trans a)) (aM j Y.rs.nx [⟨#[111,118,101,114]⟩]);have bJ:Hid (aw dL (w.heap.size+2) J K):=Y.keeps (((Kp.refl c.rb J).alloc _).trans a);clear d a;generalize f:aH c.ts bG [⟨#[111,118,101,114]⟩]=bL at*;have cp:=ab f;clear f;go_wp2_with fail;refine(dv c _ bL cl K.heap.size [⟨#[40]⟩] (by exact ac.rs.alloc _) (by exact bo rfl (fun l m=>by match l,m with|0,_=>rfl)) (by simp) (dt (by decide))).mono ?_;rintro e bN ⟨rfl,⟨cq,d⟩,a⟩;obtain⟨L,ae⟩:=ag (ac.step d (((Kp.refl c.rb K).alloc _).trans a)) (aM j ac.rs.nx [⟨#[40]⟩]);have bS:Hid (aw dL (w.heap.size+2) K bN):=ac.keeps (((Kp.refl c.rb K).alloc _).trans a);clear d a;generalize f:aH c.ts bL [⟨#[40]⟩]=bX at*;have cr:=ab f;clear f;go_wp2_with fail;refine(sx c _ bX cq ⟨#[112,97,114,116,105,116,105,111,110]⟩ _ (by exact L.rs) ((ae.dp.trans (ad.dp.trans Z.dp)).trans (aI.dp.trans ay)) (by rw[JA];rfl) rfl).mono ?_;rintro e aj ⟨c9,aR,aT,aU,rfl,aV,⟨⟨cs,d⟩,a⟩,M⟩;subst aV;obtain⟨a0,a1⟩:=ag (L.step d a) (lf j L.rs.nx ⟨#[112,97,114,116,105,116,105,111,110]⟩);have b0:Hid (aw dL (w.heap.size+2) bN aj):=L.keeps a;have b1:=ab M;have ak:=ab L.lo;clear d a M;generalize f:ig c.ts bX ⟨#[112,97,114,116,105,116,105,111,110]⟩=a2 at*;have ct:=ab f;clear f;obtain⟨t,f6⟩:=blk a0.box;have cu:=aa a0.box
   go_upto_region 9 with(fail)
   have N:=ab (a0.set (i:=3) (u:=.slice aR aT aU) rfl);have b2:Hid (aw dL (w.heap.size+2) aj (aj.setCell ⟨w.heap.size+1,3,none⟩ (.slice aR aT aU))):=WS.setKeeps;clear t f6 cu;generalize aj.setCell ⟨w.heap.size+1,3,none⟩ (.slice aR aT aU)=cv at*;go_wp2_with fail;refine(sx c _ a2.2 cs ⟨#[111,114,100,101,114]⟩ _ (by exact N.rs) (a1.dp.trans ((ae.dp.trans (ad.dp.trans Z.dp)).trans (aI.dp.trans ay))) (by rw[JA];rfl) rfl).mono ?_;rintro e al ⟨c',a3,a4,co,rfl,aV,⟨⟨a5,d⟩,a⟩,M⟩;subst aV;obtain⟨a9,b3⟩:=ag (N.step d a) (lf j N.rs.nx ⟨#[111,114,100,101,114]⟩);have b4:Hid (aw dL (w.heap.size+2) cv al):=N.keeps a;have b5:=ab M;have an:=ab N.lo;clear d a M;generalize f:ig c.ts a2.2 ⟨#[111,114,100,101,114]⟩=h at*;have cz:=ab f;clear f;obtain⟨v,f7⟩:=blk a9.box;have cF:=aa a9.box
   go_upto_region 10 with(fail)
   have x:=ab (a9.set (i:=4) (u:=.slice a3 a4 co) rfl);have b6:Hid (aw dL (w.heap.size+2) al (al.setCell ⟨w.heap.size+1,4,none⟩ (.slice a3 a4 co))):=WS.setKeeps;clear v f7 cF;generalize al.setCell ⟨w.heap.size+1,4,none⟩ (.slice a3 a4 co)=b7 at*
   have b9:Hid (X=(⟨p,n,q.1,a2.1,h.1,(gp c.ts h.2).1⟩,aH c.ts (gp c.ts h.2).2 [⟨#[41]⟩])):=by
    rw[U cb];unfold Hid lT oS ul km
    dsimp only
    rw[<-U R,cj,cp,cr,ct,U cz]
   cases C:az c.ts h.2 [⟨#[114,111,119,115]⟩]with
   |false=>
    have a':Hid (gp c.ts h.2=(none,h.2)):=by unfold Hid gp;rw[C];rfl
    have ao:=ab C;clear C;go_wp2_with fail;refine(eF c _ h.2 a5 ⟨#[114,111,119,115]⟩ (by exact x.rs) (by exact ao)).mono ?_;rintro e s ⟨rfl,ap⟩;have r:=ab (x.step (x.rs.keep ap) (Kp.ofBelow ap));have ba:Hid (aw dL (w.heap.size+2) b7 s):=aw.ofBelow ap;clear ap;go_wp2_with fail;refine(dv c _ h.2 a5 s.heap.size [⟨#[41]⟩] (by exact r.rs.alloc _) (by exact bo rfl (fun l m=>by match l,m with|0,_=>rfl)) (by simp) (dt (by decide))).mono ?_;rintro e D ⟨rfl,⟨bb,d⟩,a⟩;obtain⟨y,bc⟩:=ag (r.step d (((Kp.refl c.rb s).alloc _).trans a)) (aM j r.rs.nx [⟨#[41]⟩]);have be:Hid (aw dL (w.heap.size+2) s D):=r.keeps (((Kp.refl c.rb s).alloc _).trans a);clear d a;go_wp2;go_ret;rw[U b9,U a'];refine⟨w.heap.size+1,rfl,⟨⟨bb,y.rs⟩,y.kp⟩,fun I=>?_⟩;have O:=bc.er I;have P:=b3.er O;have bg:=a1.er P;have bk:=Z.er (ad.er (ae.er bg));have bl:=ba.trans be;have v:=b6.trans bl;have t:=b2.trans (b4.trans v);have W:=bF.trans (bJ.trans (bS.trans (b0.trans t)));have z:w.heap.size<=w.heap.size+2:=by omega
    exact⟨w.heap.size+1,o,_,_,_,rfl,by omega,y.box,(bA bk).keep z W,(b1 P).keep (Jt z ak) (t.mono (fun _ g=>g) ak),(b5 O).keep (Jt z an) (v.mono (fun _ g=>g) an),rfl⟩
   |true=>
    have a':Hid (gp c.ts h.2=(some (bP c.ts (aD h.2) 3),aH c.ts (cx c.ts (aD h.2) 3) [⟨#[112,114,101,99,101,100,105,110,103]⟩])):=by unfold Hid gp;rw[C];rfl
    have ao:=ab C;clear C;go_wp2_with fail;refine(fu c _ h.2 a5 ⟨#[114,111,119,115]⟩ (by exact x.rs) (by rw[JA];rfl) (by exact ao)).mono ?_;rintro e s ⟨rfl,⟨cI,d⟩,a⟩;obtain⟨r,cL⟩:=ag (x.step d a) (bB j x.rs.nx (aW ao));have ba:Hid (aw dL (w.heap.size+2) b7 s):=x.keeps a;clear d a;go_wp2_with fail;refine(su c _ (aD h.2) cI (by exact r.rs)).mono ?_;rintro e D ⟨E,rfl,cN,b',⟨bb,d⟩,a⟩;obtain⟨y,bc⟩:=ag (r.step d a) (dx j r.rs.nx (k:=3) (by decide));have be:Hid (aw dL (w.heap.size+2) s D):=r.keeps a;have ca:=ab b';have cR:w.heap.size+2<=E:=Jt r.lo cN;clear d a b';obtain⟨ar,f9⟩:=blk y.box;have cT:=aa y.box
    go_upto_region 12 with(fail)
    have au:=ab (y.set (i:=5) (u:=.pointer (some ⟨E,0,none⟩)) rfl);have cV:Hid (aw dL (w.heap.size+2) D (D.setCell ⟨w.heap.size+1,5,none⟩ (.pointer (some ⟨E,0,none⟩)))):=WS.setKeeps;clear ar f9 cT;generalize D.setCell ⟨w.heap.size+1,5,none⟩ (.pointer (some ⟨E,0,none⟩))=av at*;go_wp2_with fail;refine(dv c _ (cx c.ts (aD h.2) 3) bb av.heap.size [⟨#[112,114,101,99,101,100,105,110,103]⟩] (by exact au.rs.alloc _) (by exact bo rfl (fun l m=>by match l,m with|0,_=>rfl)) (by simp) (dt (by decide))).mono ?_;rintro e Q ⟨rfl,⟨cW,d⟩,a⟩;obtain⟨ax,cZ⟩:=ag (au.step d (((Kp.refl c.rb av).alloc _).trans a)) (aM j au.rs.nx [⟨#[112,114,101,99,101,100,105,110,103]⟩]);have c0:Hid (aw dL (w.heap.size+2) av Q):=au.keeps (((Kp.refl c.rb av).alloc _).trans a);clear d a;go_wp2_with fail;refine(dv c _ (aH c.ts (cx c.ts (aD h.2) 3) [⟨#[112,114,101,99,101,100,105,110,103]⟩]) cW Q.heap.size [⟨#[41]⟩] (by exact ax.rs.alloc _) (by exact bo rfl (fun l m=>by match l,m with|0,_=>rfl)) (by simp) (dt (by decide))).mono ?_;rintro e c1 ⟨rfl,⟨c2,d⟩,a⟩;obtain⟨bn,c3⟩:=ag (ax.step d (((Kp.refl c.rb Q).alloc _).trans a)) (aM j ax.rs.nx [⟨#[41]⟩]);have c4:Hid (aw dL (w.heap.size+2) Q c1):=ax.keeps (((Kp.refl c.rb Q).alloc _).trans a);clear d a;go_wp2;go_ret;rw[U b9,U a'];refine⟨w.heap.size+1,rfl,⟨⟨c2,bn.rs⟩,bn.kp⟩,fun I=>?_⟩;have O:=cL.er (bc.er (cZ.er (c3.er I)));have P:=b3.er O;have bg:=a1.er P;have bk:=Z.er (ad.er (ae.er bg));have ar:=cV.trans (c0.trans c4);have bl:=ba.trans (be.trans ar);have v:=b6.trans bl;have t:=b2.trans (b4.trans v);have W:=bF.trans (bJ.trans (bS.trans (b0.trans t)));have z:w.heap.size<=w.heap.size+2:=by omega
    refine⟨w.heap.size+1,o,_,_,_,rfl,by omega,bn.box,(bA bk).keep z W,(b1 P).keep (Jt z ak) (t.mono (fun _ g=>g) ak),(b5 O).keep (Jt z an) (v.mono (fun _ g=>g) an),E,rfl,by omega,?_⟩;exact(ar E _ _ cR ca rfl).trans ca
structure bH where
 place:Nat
 win:Option oR
 val:List Nd
 asP:Nat
 asT:ByteArray
def dW:List ByteArray:=[⟨#[114,111,119,95,110,117,109,98,101,114]⟩,⟨#[99,111,117,110,116]⟩,⟨#[115,117,109]⟩,⟨#[109,105,110]⟩,⟨#[109,97,120]⟩]
def db(ts:List Tk)(st:St):(Option oR×List Nd)×St:=
 if az ts st dW then((some (lT ts (aD st) (ah ts st.nx).place (ah ts st.nx).text).1,[]),(lT ts (aD st) (ah ts st.nx).place (ah ts st.nx).text).2)
 else((none,(bj ts st).1),(bj ts st).2)
def eG(ts:List Tk)(st:St):(Nat×ByteArray)×St:=if az ts st [⟨#[97,115]⟩]then(((bP ts (aD st) 2).place,(bP ts (aD st) 2).text),cx ts (aD st) 2)else((0,⟨#[]⟩),st)
def em(ts:List Tk)(st:St):bH×St:=(⟨(ah ts st.nx).place,(db ts st).1.1,(db ts st).1.2,(eG ts (db ts st).2).1.1,(eG ts (db ts st).2).1.2⟩,(eG ts (db ts st).2).2)
theorem oT{ts:List Tk}(a:cO ts){st:St}(b:st.nx<ts.length):cG ts st (db ts st).2:=by
 unfold db;split
 ·rename_i d
  have c:=bB a b (aW d);exact c.trans (Gg a c.lt (ah ts st.nx).place (ah ts st.nx).text)
 ·exact dn a _ b
theorem xn{ts:List Tk}(a:cO ts){st:St}(b:st.nx<ts.length):cG ts st (eG ts st).2:=by
 unfold eG;split
 ·rename_i d
  have c:=bB a b (aW d);exact c.trans (dx a c.lt (by decide))
 ·exact cG.refl b
theorem iH{ts:List Tk}(a:cO ts):mN ts (em ts):=fun _ b=>(oT a b).trans (xn a (oT a b).lt)
def pz(w:World)(lo:Nat)(v a:Value)(x:Option oR)(l:List Nd):Prop:=match x with
 |none=>a=.pointer none/\eD w lo v l
 |some b=>v=.nilIface/\qD w lo a b
theorem pz.keep{w w':World}{lo b:Nat}{v c:Value}{x:Option oR}{l:List Nd}(a:pz w lo v c x l)(d:b<=lo)(e:aw dL lo w w'):pz w' b v c x l:=by
 match x,a with
 |none,a=>exact⟨a.1,a.2.keep d e.node⟩
 |some f,a=>exact⟨a.1,qD.keep a.2 d e⟩
def b8(ts:List Tk)(st:St)(xs:List ByteArray):St:=if az ts st xs then aD st else st
theorem zG(c:Cx)(w:World)(st:St)(a:Value)(b:Nat)(xs:List ByteArray)(d:RS c w st a)(f:fI w b xs)(g:xs.length<=100):
  Calls prog 147 #[.pointer (some ⟨c.rb,0,none⟩),.slice (some ⟨b,0,none⟩) xs.length xs.length] w fun e w'=>e=.returned (.string (iu c.ts st xs))/\eO c w (b8 c.ts st xs) w':=by
 unfold iu b8
 cases h:az c.ts st xs with
 |true=>refine(ji c w st a b xs d f g h).mono ?_;rintro e w' ⟨rfl,i⟩;exact⟨rfl,i⟩
 |false=>refine(kh c w st a b xs d f g h).mono ?_;rintro e w' ⟨rfl,j⟩;exact⟨rfl,eO.same d j⟩
structure IS(c:Cx)(w:World)(b1:Nat)(W:World)(st:St)(ev:Value)(p:Nat)(v wv:Value)(ap:Nat)(at':ByteArray):Prop where
 rs:RS c W st ev
 kp:Kp c.rb w W
 res:W.heap[w.heap.size]? =some (.cells #[.int .i64 0,.nilIface,.pointer none,.int .i64 0,.string ⟨#[]⟩] 251 (0,0))
 box:W.heap[b1]? =some (.cells #[.int .i64 p,v,wv,.int .i64 ap,.string at'] 251 (0,0))
 old:c.rb<w.heap.size/\c.tb<w.heap.size/\c.B<=w.heap.size/\w.heap.size<b1
theorem IS.step{c:Cx}{w:World}{d:Nat}{W W':World}{st st':St}{i e:Value}{p:Nat}{v f:Value}{g:Nat}{h:ByteArray}(a:IS c w d W st i p v f g h)(j:RS c W' st' e)(b:Kp c.rb W W'):IS c w d W' st' e p v f g h:=
 ⟨j,a.kp.trans b,(b.block _ (aa a.res) (by have:=a.old.1;omega)).trans a.res,(b.block _ (aa a.box) (by have:=a.old;omega)).trans a.box,a.old⟩
theorem IS.keeps{c:Cx}{w:World}{a lo:Nat}{W W':World}{st:St}{b:Value}{p:Nat}{v d:Value}{e:Nat}{f:ByteArray}(g:IS c w a W st b p v d e f)(h:Kp c.rb W W'):aw dL lo W W':=g.rs.keeps h rfl
theorem IS.set{c:Cx}{w:World}{b:Nat}{W:World}{st:St}{d:Value}{p:Nat}{v e v' f u:Value}{g ap' i:Nat}{h at'':ByteArray}(a:IS c w b W st d p v e g h)
  (j: #[.int .i64 p,v,e,.int .i64 g,.string h].setIfInBounds i u= #[.int .i64 p,v',f,.int .i64 ap',.string at'']):IS c w b (W.setCell ⟨b,i,none⟩ u) st d p v' f ap' at'':=by
 have k:=a.old;refine⟨a.rs.kpb ((Kp.refl _ _).setCell _ _) (by omega) (by omega) (by omega) (fun p l=>by rw[a.box];simp),a.kp.setNew (by show w.heap.size<=b;omega) _,?_,?_,a.old⟩
 ·rw[Jp _ _ _ _ (by show w.heap.size≠b;omega)];exact a.res
 ·rw[am a.box,j]
theorem IS.setKeeps{c:Cx}{w:World}{a lo:Nat}{W:World}{st:St}{b:Value}{p:Nat}{v d u:Value}{f i:Nat}{g:ByteArray}(h:IS c w a W st b p v d f g):aw dL lo W (W.setCell ⟨a,i,none⟩ u):=
 aw.ofKp ((Kp.refl a W).setCell i u) (Or.inr fun cs t e=>by rw[h.box]at e;cases e;rfl)
theorem Kp.own{r b:Nat}{w W W':World}(a:Kp r w W)(c:Kp b W W')(f:w.heap.size<=b):Kp r w W':=
 ⟨c.os.trans a.os,c.tape.trans a.tape,c.output.trans a.output,Jt a.size c.size,fun k d e=>(c.block k (Js d a.size) (by omega)).trans (a.block k d e)⟩
theorem IS.fin{c:Cx}{w:World}{f lo:Nat}{W W':World}{st:St}{e:Value}{p:Nat}{v g:Value}{h:Nat}{i:ByteArray}(a:IS c w f W st e p v g h i)(b:Kp w.heap.size W W'):RS c W' st e/\Kp c.rb w W'/\aw dL lo W W':=by have j:=a.old;exact⟨a.rs.kpb b (by omega) (by omega) (by omega) (fun p d=>by rw[a.res];simp),a.kp.own b (Ji _),aw.ofKp b (Or.inr fun k l d=>by rw[a.res]at d;cases d;rfl)⟩
theorem rP(c:Cx)(w:World)(st:St)(N:Value)(X:bH×St)(E:RS c w st N)(ak:st.dp=0)(aV:Hid (X=em c.ts st)):
  Calls prog 152 #[.pointer (some ⟨c.rb,0,none⟩)] w fun e w'=> ∃v d,e=.returned (.agg #[.int .i64 X.1.place,v,.pointer d,.int .i64 X.1.asP,.string X.1.asT])/\jQ v/\eO c w X.2 w'/\(X.2.er=none->pz w' w.heap.size v (.pointer d) X.1.win X.1.val):=by
 have O:=ab E.last
 have al:c.rb<w.heap.size/\c.tb<w.heap.size/\c.B<=w.heap.size:=⟨aa E.reader,by obtain⟨br,J,_⟩:=E.tokens;exact aa J,E.env.size⟩
 obtain⟨Y,Z⟩:=ag al E;clear E al;have bs:=ec
 obtain⟨a,P⟩: ∃a,Hid (a=db c.ts st):=⟨_,rfl⟩
 have a0:=ab (oT O Z.nx);rw[<-U P]at a0;go_enter func152,ntmps152;go_wp2_with fail;refine(cX c _ st N (by exact Z.alloc _)).mono ?_;rintro e y ⟨rfl,z⟩;have Q:=ab z;clear z;generalize an:(ah c.ts st.nx).place=g at*;have ao:=ab an;clear an;go_wp2_with fail
 have F:IS c w y.heap.size (y.alloc (.cells #[.int .i64 g,.nilIface,.pointer none,.int .i64 0,.string ⟨#[]⟩] 251)) st N g .nilIface (.pointer none) 0 ⟨#[]⟩:=by
  have a1:w.heap.size<y.heap.size:=by have:=Q.size;simp at this;omega
  refine⟨(((Z.alloc _).keep Q).alloc _),(((Kp.refl c.rb w).alloc _).trans (Kp.ofBelow Q)).alloc _,ai ((Q.block w.heap.size (by simp)).trans (af rfl)),af rfl,Y.1,Y.2.1,Y.2.2,a1⟩
 have ac:=ab F;have bt:w.heap.size<=y.heap.size:=by have:=F.old;omega
 clear F;refine(zG c _ st N (y.heap.size+1) [⟨#[114,111,119,95,110,117,109,98,101,114]⟩,⟨#[99,111,117,110,116]⟩,⟨#[115,117,109]⟩,⟨#[109,105,110]⟩,⟨#[109,97,120]⟩] (by exact ac.rs.alloc _) (by exact bo (by simp) (fun a2 a3=>by match a2,a3 with|0,_=>rfl|1,_=>rfl|2,_=>rfl|3,_=>rfl|4,_=>rfl)) (by simp)).mono ?_;rintro e ad ⟨rfl,⟨R,n⟩,h⟩;have K:=ab (ac.step n (((Kp.refl c.rb _).alloc _).trans h));have bu:y.heap.size<ad.heap.size:=by have:=h.size;simp at this;omega
 clear n h ac;generalize y.heap.size=r at*
 obtain⟨tx,ae⟩: ∃tx,Hid (iu c.ts st [⟨#[114,111,119,95,110,117,109,98,101,114]⟩,⟨#[99,111,117,110,116]⟩,⟨#[115,117,109]⟩,⟨#[109,105,110]⟩,⟨#[109,97,120]⟩]=tx):=⟨_,rfl⟩
 rw[U ae]
 go_upto_if 13 with(fail)
 go_cut []from 12 to 22 (fun ap=> ∃s v d,IS c w r ap a.2 s g v (.pointer d) 0 ⟨#[]⟩/\jQ v/\(a.2.er=none->pz ap w.heap.size v (.pointer d) a.1.1 a.1.2))
 case first=>
  cases l:az c.ts st dW with
  |true=>
   have S:=mG l (dt (by decide));have G:tx=(ah c.ts st.nx).text:=by rw[<-U ae];unfold iu;exact Jo l
   rw[<-G]at S
   have L:(!tx.toList.isEmpty)=true:=by
    cases a4:tx.toList with
    |nil=>rw[a4]at S;cases S
    |cons bv bx=>rfl
   have aj:Hid (a=((some (lT c.ts (aD st) g tx).1,[]),(lT c.ts (aD st) g tx).2)):=by rw[U P,G,<-U ao];unfold Hid db;exact Jo l
   have j:Hid (IS c w r ad (aD st) R g .nilIface (.pointer none) 0 ⟨#[]⟩):=by have J:b8 c.ts st [⟨#[114,111,119,95,110,117,109,98,101,114]⟩,⟨#[99,111,117,110,116]⟩,⟨#[115,117,109]⟩,⟨#[109,105,110]⟩,⟨#[109,97,120]⟩]=aD st:=Jo l;have:=U K;rw[J]at this;exact this
   clear l G K S;obtain⟨a5,f2⟩:=blk j.box;have a9:=aa j.box;rw[L];clear L;go_wp2_with fail;refine(Bd c _ (aD st) R g tx _ (by exact j.rs) ak rfl).mono ?_;rintro e a' ⟨ba,rfl,⟨⟨s,n⟩,h⟩,ar⟩;obtain⟨b,bb⟩:=ag (j.step n h) ar;clear n h ar a5 f2 a9;obtain⟨bc,f3⟩:=blk b.box;have be:=aa b.box;go_wp2_with fail;go_meet
   case rel=>rw[U aj];refine⟨s,.nilIface,some ⟨ba,0,none⟩,b.set rfl,Or.inl rfl,fun m=>?_⟩;exact pz.keep (x:=some _) ⟨rfl,(U bb) m⟩ j.kp.size b.setKeeps
  |false=>
   have G:tx=⟨#[]⟩:=by rw[<-U ae];unfold iu;exact Jn (fun e=>by rw[show az c.ts st [⟨#[114,111,119,95,110,117,109,98,101,114]⟩,⟨#[99,111,117,110,116]⟩,⟨#[115,117,109]⟩,⟨#[109,105,110]⟩,⟨#[109,97,120]⟩]=false from l]at e;cases e)
   have aj:Hid (a=((none,(bj c.ts st).1),(bj c.ts st).2)):=by rw[U P];unfold Hid db;exact Jn (by rw[l];decide)
   have j:Hid (IS c w r ad st R g .nilIface (.pointer none) 0 ⟨#[]⟩):=by have J:b8 c.ts st [⟨#[114,111,119,95,110,117,109,98,101,114]⟩,⟨#[99,111,117,110,116]⟩,⟨#[115,117,109]⟩,⟨#[109,105,110]⟩,⟨#[109,97,120]⟩]=st:=Jn (fun e=>by rw[show az c.ts st [⟨#[114,111,119,95,110,117,109,98,101,114]⟩,⟨#[99,111,117,110,116]⟩,⟨#[115,117,109]⟩,⟨#[109,105,110]⟩,⟨#[109,97,120]⟩]=false from l]at e;cases e);have:=U K;rw[J]at this;exact this
   have L:(!tx.toList.isEmpty)=false:=by rw[G,JA];rfl
   clear l K G;rw[L];clear L;go_wp2_with fail;refine(gO c O _ st R (by exact j.rs) ak).mono ?_;rintro e a' ⟨v,rfl,o,⟨⟨s,n⟩,h⟩,hex⟩;obtain⟨b,bg,t⟩:=aC (j.step n h) hex o;clear n h hex;obtain⟨bc,f3⟩:=blk b.box;have be:=aa b.box;rcases o with rfl|⟨uq,zq,rfl⟩
   all_goals
    go_wp2_with fail;go_meet
    case rel=>rw[U aj];refine⟨s,_,none,b.set rfl,t,fun m=>?_⟩;exact pz.keep (x:=none) ⟨rfl,(U bg) m⟩ j.kp.size b.setKeeps
 case rest=>
  obtain⟨s,v,d,F,o,au⟩:=hcut;obtain⟨j,t,T⟩:=aC F o au;clear F au K;have bk:=o.cells;unfold Value.cells at bk;have q:Hid (X=(⟨g,a.1.1,a.1.2,(eG c.ts a.2).1.1,(eG c.ts a.2).1.2⟩,(eG c.ts a.2).2)):=by rw[U aV];unfold Hid em;rw[U ao,<-U P]
  clear o
  cases l:az c.ts a.2 [⟨#[97,115]⟩]with
  |false=>
   have p:Hid (eG c.ts a.2=((0,⟨#[]⟩),a.2)):=by unfold Hid eG;rw[l];rfl
   have V:=ab l;clear l;go_wp2_with fail;refine(eF c _ a.2 s ⟨#[97,115]⟩ (by exact j.rs) (by exact V)).mono ?_;rintro e H ⟨rfl,z⟩;have b:=ab (j.step (j.rs.keep z) (Kp.ofBelow z));have M:Hid (aw dL w.heap.size wc H):=aw.ofBelow z;clear z;obtain⟨bz,f4⟩:=blk b.box;obtain⟨av,bA⟩:=blk b.res;have bF:=aa b.box;have bG:=aa b.res;rcases U t with o|⟨uq,zq,o⟩
   ·subst o;go_wp2;obtain⟨A,B,C⟩:=b.fin (lo:=w.heap.size) (((((Kp.refl w.heap.size H).setCell 0 (.int .i64 g)).setCell 1 .nilIface).setCell 2 (.pointer d)).setCell 3 (.int .i64 0)|>.setCell 4 (.string ⟨#[]⟩));refine Jr (v:=.agg #[.int .i64 g,.nilIface,.pointer d,.int .i64 0,.string ⟨#[]⟩]) (by simp[results,results152,go_sem,av]) rfl ⟨.nilIface,d,?_,t,⟨⟨s,?_⟩,?_⟩,fun m=>?_⟩
    ·rw[U q,U p];rfl
    ·rw[U q,U p];exact A
    ·exact B
    ·rw[U q,U p]at m⊢;exact(T m).keep (Ji _) (M.trans C)
   ·subst o;go_wp2;obtain⟨A,B,C⟩:=b.fin (lo:=w.heap.size) (((((Kp.refl w.heap.size H).setCell 0 (.int .i64 g)).setCell 1 (.iface uq zq)).setCell 2 (.pointer d)).setCell 3 (.int .i64 0)|>.setCell 4 (.string ⟨#[]⟩));refine Jr (v:=.agg #[.int .i64 g,(.iface uq zq),.pointer d,.int .i64 0,.string ⟨#[]⟩]) (by simp[results,results152,go_sem,av]) rfl ⟨(.iface uq zq),d,?_,t,⟨⟨s,?_⟩,?_⟩,fun m=>?_⟩
    ·rw[U q,U p];rfl
    ·rw[U q,U p];exact A
    ·exact B
    ·rw[U q,U p]at m⊢;exact(T m).keep (Ji _) (M.trans C)
  |true=>
   have p:Hid (eG c.ts a.2=(((bP c.ts (aD a.2) 2).place,(bP c.ts (aD a.2) 2).text),cx c.ts (aD a.2) 2)):=by unfold Hid eG;rw[l];rfl
   have V:=ab l;clear l;go_wp2_with fail;refine(fu c _ a.2 s ⟨#[97,115]⟩ (by exact j.rs) (by rw[JA];rfl) (by exact V)).mono ?_;rintro e H ⟨rfl,⟨bl,n⟩,h⟩;obtain⟨b,ax⟩:=ag (j.step n h) (bB O j.rs.nx (aW V));have M:Hid (aw dL w.heap.size wc H):=j.keeps h;clear n h;go_wp2_with fail;refine(gN c _ (aD a.2) bl (by exact b.rs)).mono ?_;rintro e I ⟨rfl,⟨ay,n⟩,h⟩;obtain⟨W,aA⟩:=ag (b.step n h) (dx O b.rs.nx (k:=2) (by decide));have aI:Hid (aw dL w.heap.size H I):=b.keeps h;clear n h;generalize aJ:bP c.ts (aD a.2) 2=f at*;have bJ:=ab aJ;clear aJ;obtain⟨bn,f5⟩:=blk W.box;have bq:=aa W.box
   go_upto_region 8 with(fail)
   have aL:=ab (W.set (i:=3) (u:=.int .i64 f.place) (ap':=f.place) rfl);have aN:Hid (aw dL w.heap.size I (I.setCell ⟨r,3,none⟩ (.int .i64 f.place))):=W.setKeeps;have D:=ab (aL.set (i:=4) (u:=.string f.text) (at'':=f.text) rfl);have aR:Hid (aw dL w.heap.size (I.setCell ⟨r,3,none⟩ (.int .i64 f.place)) ((I.setCell ⟨r,3,none⟩ (.int .i64 f.place)).setCell ⟨r,4,none⟩ (.string f.text))):=aL.setKeeps;clear bn f5 bq;generalize(I.setCell ⟨r,3,none⟩ (.int .i64 f.place)).setCell ⟨r,4,none⟩ (.string f.text)=aT at*;obtain⟨bL,f7⟩:=blk D.box;obtain⟨aU,bN⟩:=blk D.res;have bS:=aa D.box;have bX:=aa D.res;have b0:w.heap.size≠r:=by have:=D.old;omega
   rcases U t with o|⟨uq,zq,o⟩
   ·subst o;go_wp2;obtain⟨A,B,C⟩:=D.fin (lo:=w.heap.size) (((((Kp.refl w.heap.size aT).setCell 0 (.int .i64 g)).setCell 1 .nilIface).setCell 2 (.pointer d)).setCell 3 (.int .i64 f.place)|>.setCell 4 (.string f.text));refine Jr (v:=.agg #[.int .i64 g,.nilIface,.pointer d,.int .i64 f.place,.string f.text]) (by simp[results,results152,go_sem,aU]) rfl ⟨.nilIface,d,?_,t,⟨⟨ay,?_⟩,?_⟩,fun m=>?_⟩
    ·rw[U q,U p]
    ·rw[U q,U p];exact A
    ·exact B
    ·rw[U q,U p]at m⊢;exact(T (ax.er (aA.er m))).keep (Ji _) ((M.trans (aI.trans (aN.trans aR))).trans C)
   ·subst o;go_wp2;obtain⟨A,B,C⟩:=D.fin (lo:=w.heap.size) (((((Kp.refl w.heap.size aT).setCell 0 (.int .i64 g)).setCell 1 (.iface uq zq)).setCell 2 (.pointer d)).setCell 3 (.int .i64 f.place)|>.setCell 4 (.string f.text));refine Jr (v:=.agg #[.int .i64 g,(.iface uq zq),.pointer d,.int .i64 f.place,.string f.text]) (by simp[results,results152,go_sem,aU]) rfl ⟨(.iface uq zq),d,?_,t,⟨⟨ay,?_⟩,?_⟩,fun m=>?_⟩
    ·rw[U q,U p]
    ·rw[U q,U p];exact A
    ·exact B
    ·rw[U q,U p]at m⊢;exact(T (ax.er (aA.er m))).keep (Ji _) ((M.trans (aI.trans (aN.trans aR))).trans C)
def dI(b:List (bH×Value×Option Addr)):List Value:=b.flatMap fun a=>[.int .i64 a.1.place,a.2.1,.pointer a.2.2,.int .i64 a.1.asP,.string a.1.asT]
theorem xr(a:List (bH×Value×Option Addr))(e:bH×Value×Option Addr):dI a++[.int .i64 e.1.place,e.2.1,.pointer e.2.2,.int .i64 e.1.asP,.string e.1.asT]=dI (a++[e]):=by simp[dI]
theorem aw.grown{S:TypeId->Bool}{lo f:Nat}{w w':World}{e:TypeId}{size:Nat}{v:Value}{n:Nat}{xs:List Value}(h:w.ownsRow f e size v n xs)(i:w.grownBy w' v.ownBlock)(j:S e=false):aw S lo w w':=by
 intro b l m _ a c;refine i.block b (aa a) (fun d=>?_);rcases h.2 with⟨rfl,_⟩|⟨g,cap,cur,rfl,_,hh,_⟩
 ·cases d
 ·have k:b=g:=by simpa [Value.ownBlock]using d
  subst k;rw[hh]at a;cases a;rw[j]at c;cases c
structure wH(c:Cx)(w:World)(most:Nat)(d:Nat)(R:List bH×St)(f:Nat)(v:Value)(wr:World)(es:List (bH×Value×Option Addr))(st':St)(ev':Value):Prop where
 rs:RS c wr st' ev'
 kp:Kp c.rb w wr
 row:wr.ownsRow w.heap.size 251 5 v es.length (dI es)
 ok:st'.er=none-> ∀e∈es,pz wr w.heap.size e.2.1 (.pointer e.2.2) e.1.win e.1.val
 pos:0<es.length
 few:es.length<=st'.nx+1
 eq:R=cA c.ts (em c.ts) most f (es.map (·.1)) st'
 fuel:c.ts.length<=f+st'.nx
 dp:st'.dp=d
theorem Au{c:Cx}{w wr u o f i:World}{j d gk:Nat}{R:List bH×St}{v v':Value}{e:List (bH×Value×Option Addr)}{bR st':St}{F G x:Value}{k:Value}{l:Option Addr}{a:bH×St}(b:wH c w j d R (gk+1) v wr e st' G)(y:az c.ts st' jm=true)(z:cO c.ts)(H:c.rb<w.heap.size)(A:RS c w bR F)
  (B:a=em c.ts (many c.ts j e.length (aD st')))
  (p:Kp c.rb wr u) (q:Kp c.rb u o) (I:RS c f a.2 x) (C:Kp c.rb o f) (hex:a.2.er=none->pz f o.heap.size k (.pointer l) a.1.win a.1.val)
  (r:f.ownsRow w.heap.size 251 5 v e.length (dI e)) (J:i.ownsRow w.heap.size 251 5 v' (e.length+1) (dI e++[.int .i64 a.1.place,k,.pointer l,.int .i64 a.1.asP,.string a.1.asT]))
  (s:(f.alloc (.cells #[.int .i64 a.1.place,k,.pointer l,.int .i64 a.1.asP,.string a.1.asT] 251)).grownBy i v.ownBlock):
  wH c w j d R gk v' i (e++[(a.1,k,l)]) a.2 x:=by
 have t:=bB z b.rs.nx (aW y);have m:=eh t.lt j e.length;have n:=iH z _ m.lt;rw[<-B]at n;have K:c.tb<w.heap.size:=by obtain⟨O,L,_⟩:=A.tokens;exact aa L
 have P:st'.nx+1<=a.2.nx:=Jt m.nx n.nx;have M:Kp c.rb w f:=((b.kp.trans p).trans q).trans C;have D:aw dL w.heap.size f i:=(aw.ofBelow ((Jj _ _).alloc (Ji _) _)).trans (aw.grown (r.alloc _) s rfl);refine⟨(I.alloc _).grown (r.alloc _) s (by decide) H K A.env.size,?_,?_,fun E g h=>?_,by simp,?_,?_,?_,?_⟩
 ·exact Kp.grown (M.alloc _) (r.alloc _) s (Ji _)
 ·rw[<-xr,Jk];exact J
 ·rcases JW.1 h with h|h
  ·have N:=b.ok (t.er (m.er (n.er E))) g h;exact(N.keep (Ji _) (b.rs.keeps ((p.trans q).trans C) rfl)).keep (Ji _) D
  ·rw[JN.1 h];exact((hex E).keep ((b.kp.trans p).trans q).size (aw.ofBelow (Jj _ _))).keep (Ji _) D
 ·have:=b.few;rw[Jk];simp;omega
 ·have g:=b.eq;unfold cA at g;rw[Jo y]at g;rw[g,Jm,<-B,Ks];rfl
 ·have:=b.fuel;omega
 ·exact(n.dp.trans (m.dp.trans t.dp)).trans b.dp
theorem Ho:(prog.info? 251).map (fun i=>(i.zero,i.size,i.bytes))=some (some (.agg #[.int .i64 0,.nilIface,.pointer none,.int .i64 0,.string ⟨#[]⟩]),5,56):=by kernel_rfl
theorem Hp{p a:Int}{v:Value}{c:Option Addr}{s:ByteArray}(d:jQ v): ∀u∈ [Value.int .i64 p,v,.pointer c,.int .i64 a,.string s],u.oneCell'=true:=by
 intro u b;simp only[JG,JO,Kg]at b;rcases b with rfl|rfl|rfl|rfl|rfl
 ·rfl
 ·exact d.one
 ·rfl
 ·rfl
 ·rfl
theorem CA(c:Cx)(w:World)(st:St)(ar:Value)(d:Nat)(R:List bH×St)(m:RS c w st ar)(J:st.dp=0)(_hm:d<=1001)(a5:Hid (R=dE c.ts (em c.ts) d st)):
  Calls prog 151 #[.pointer (some ⟨c.rb,0,none⟩),.int .i64 d,.func (.func 152) #[.pointer (some ⟨c.rb,0,none⟩)] #[]] w fun e w'=> ∃v b,e=.returned v/\w'.ownsRow w.heap.size 251 5 v b.length (dI b)/\b.map (·.1)=R.1/\0<b.length/\eO c w R.2 w'/\(R.2.er=none-> ∀e∈b,pz w' w.heap.size e.2.1 (.pointer e.2.2) e.1.win e.1.val):=by
 obtain⟨au,av,ax⟩:=Jq.1 Ho;simp only[JB]at ax;obtain⟨ay,aA,aI⟩:=ax;obtain⟨aJ,aL,aN,aR⟩:=aP av ay aA aI;have K:=ab m.last;have br:=m.len;have i:=aa m.reader;have D:=ab m;clear av ay aA aI m;go_enter func151,ntmps151;go_wp2_with fail;refine(rP c _ st ar _ (by exact D) J rfl).mono ?_;rintro e L ⟨M,N,rfl,a9,⟨⟨a',O⟩,P⟩,Q⟩;have ba:=a9.cells;unfold Value.cells at ba
 obtain⟨g,E⟩: ∃g,g=em c.ts st:=⟨_,rfl⟩
 rw[<-E]at O Q⊢
 have aT:Hid (wH c w d st.dp R c.ts.length (.slice (some ⟨L.heap.size,0,none⟩) 1 1) (L.alloc (.cells #[.int .i64 g.1.place,M,.pointer N,.int .i64 g.1.asP,.string g.1.asT] 251)) [(g.1,M,N)] g.2 a'):=
  ⟨O.alloc _,P.alloc _,LL L #[.int .i64 g.1.place,M,.pointer N,.int .i64 g.1.asP,.string g.1.asT] 1 P.size (by unfold maxLen;omega) rfl,fun S e T=>by
   rw[JN.1 T]
   exact(Q S).keep (Ji _) (aw.ofBelow ((Jj _ _).alloc (Ji _) _)),by simp,by simp,by rw[U a5,E];rfl,by omega,by rw[E];exact(iH K st D.nx).dp⟩
 clear O P Q E;go_wp2_with fail
 go_loopg [7] c.ts.length (fun bb bc wr=> ∃b h n,wH c w d st.dp R bb bc wr b h n)
 case atStart=>exact⟨_,_,_,aT⟩
 case round=>
  obtain⟨b,h,n,hrel⟩:=hrel;have a:=ab hrel;clear hrel aT
  match gk,a with
  |0,a=>exact absurd a.fuel (by have:=a.rs.nx;omega)
  |gk+1,a=>
  cases F:az c.ts h jm with
  |false=>have l:=ab F;clear F;go_wp2_with fail;refine(eF c _ h n ⟨#[44]⟩ (by exact a.rs) (by exact l)).mono ?_;rintro e o ⟨rfl,aU⟩;have G:=ab aU;clear aU;go_wp2;go_ret;have V:=a.eq;unfold cA at V;rw[Jn (by rw[U l];decide)]at V;subst V;exact⟨_,b,rfl,fQ a.row G,rfl,a.pos,⟨⟨n,a.rs.keep G⟩,a.kp.trans (Kp.ofBelow G)⟩,fun S e T=>(a.ok S e T).keep (Ji _) (aw.ofBelow G)⟩
  |true=>
   have l:=ab F;clear F;obtain⟨bs,bt,be⟩:=dy a.row a.pos;subst be;have bu:=a.few;have bv:=a.rs.nx;go_wp2_with fail;refine(fu c _ h n ⟨#[44]⟩ (by exact a.rs) (by rw[JA];rfl) (by exact l)).mono ?_;rintro e o ⟨rfl,⟨aV,a0⟩,a1⟩;obtain⟨p,q⟩:=ag a0 a1;clear a0 a1;have bx:=p.env.cell 4 (by decide);have a2:=ab (bf a.row q i);by_cases H:b.length=d
   ·have bg:(((b.length:Nat):Int)==(d:Int))=true:=by simp;omega
    have W:=ab H;clear H;go_wp2_with fail;refine(iC c _ (aD h) aV cB (by exact p)).mono ?_;rintro e I ⟨rfl,⟨r,a3⟩,X⟩;have Y:Hid (RS c I (many c.ts d b.length (aD h)) r):=by unfold many;rw[Jo (U W)];exact a3
    obtain⟨s,Z⟩:=ag X (bf a2 X i);clear a3 X;go_wp2_with fail
    obtain⟨f,t⟩: ∃f,Hid (f=em c.ts (many c.ts d b.length (aD h))):=⟨_,rfl⟩
    refine(rP c _ _ r f (by exact Y) (by exact((eh p.nx d b.length).dp.trans a.dp).trans J) t).mono ?_;rintro e u ⟨ac,ad,rfl,j,⟨⟨ae,x⟩,k⟩,y⟩;have aj:=j.cells;unfold Value.cells at aj;obtain⟨ak,al⟩:=ag j y;clear j y;obtain⟨an,z,A⟩:=aC x k (bf (bf Z k i) (Kp.refl c.rb u) i);clear x k;go_wp2_with (at_builtin;refine Kd _ rfl _ _ 252 rfl w.heap.size 251 au (.agg #[.int .i64 0,.nilIface,.pointer none,.int .i64 0,.string ⟨#[]⟩]) 5 56 underlying252 aJ aL aN aR rfl (by decide) _ _ _ rfl (A.alloc _) ⟨u.heap.size,0,none⟩ 1 1 [.int .i64 f.1.place,ac,.pointer ad,.int .i64 f.1.asP,.string f.1.asT] rfl rfl ?c1 ?c2 ?c3 ?c4 ?c5 ?_)
    case c1=>exact cQ rfl
    case c2=>exact Hp ak
    case c3=>unfold maxLen;omega
    case c4=>omega
    case c5=>have:=a.kp.size;have:=q.size;have:=s.size;have:=z.size;simp;omega
    intro bk bl B C _;obtain⟨ao,ap⟩:=ag B C;clear B C;go_wp2;go_roundg gk
    case measure=>omega
    case rel=>exact⟨_,_,ae,Au a l K i D t q s an z al A ao ap⟩
   ·have bg:(((b.length:Nat):Int)==(d:Int))=false:=by simp;omega
    have W:=ab H;clear H
    obtain⟨I,bn⟩: ∃I,I=o:=⟨_,rfl⟩
    obtain⟨r,a4⟩: ∃bq,bq=aV:=⟨_,rfl⟩
    have Y:Hid (RS c o (many c.ts d b.length (aD h)) r):=by unfold many;rw[Jn (U W),a4];exact p
    have s:Hid (Kp c.rb o o):=Kp.refl _ _;have Z:=a2;clear bn a4;go_wp2_with fail
    obtain⟨f,t⟩: ∃f,Hid (f=em c.ts (many c.ts d b.length (aD h))):=⟨_,rfl⟩
    refine(rP c _ _ r f (by exact Y) (by exact((eh p.nx d b.length).dp.trans a.dp).trans J) t).mono ?_;rintro e u ⟨ac,ad,rfl,j,⟨⟨ae,x⟩,k⟩,y⟩;have aj:=j.cells;unfold Value.cells at aj;obtain⟨ak,al⟩:=ag j y;clear j y;obtain⟨an,z,A⟩:=aC x k (bf (bf Z k i) (Kp.refl c.rb u) i);clear x k;go_wp2_with (at_builtin;refine Kd _ rfl _ _ 252 rfl w.heap.size 251 au (.agg #[.int .i64 0,.nilIface,.pointer none,.int .i64 0,.string ⟨#[]⟩]) 5 56 underlying252 aJ aL aN aR rfl (by decide) _ _ _ rfl (A.alloc _) ⟨u.heap.size,0,none⟩ 1 1 [.int .i64 f.1.place,ac,.pointer ad,.int .i64 f.1.asP,.string f.1.asT] rfl rfl ?c1 ?c2 ?c3 ?c4 ?c5 ?_)
    case c1=>exact cQ rfl
    case c2=>exact Hp ak
    case c3=>unfold maxLen;omega
    case c4=>omega
    case c5=>have:=a.kp.size;have:=q.size;have:=s.size;have:=z.size;simp;omega
    intro bk bl B C _;obtain⟨ao,ap⟩:=ag B C;clear B C;go_wp2;go_roundg gk
    case measure=>omega
    case rel=>exact⟨_,_,ae,Au a l K i D t q s an z al A ao ap⟩
structure cn where
 place:Nat
 l:List Nd
 sg:ByteArray
 r:List Nd
def eH:List ByteArray:=[⟨#[61]⟩,⟨#[60,62]⟩,⟨#[60]⟩,⟨#[60,61]⟩,⟨#[62]⟩,⟨#[62,61]⟩]
def eE(ts:List Tk)(st:St):cn×St:=
 (⟨(ah ts st.nx).place,(bj ts st).1,iu ts (bj ts st).2 eH,(bj ts (aH ts (bj ts st).2 eH)).1⟩,(bj ts (aH ts (bj ts st).2 eH)).2)
theorem jJ{ts:List Tk}(a:cO ts):mN ts (eE ts):=fun _ d=>by have b:=dn a _ d;have c:=aM a b.lt eH;exact b.trans (c.trans (dn a _ c.lt))
structure TS(c:Cx)(w:World)(b1:Nat)(W:World)(st:St)(ev:Value)(p:Nat)(x:Value)(sg:ByteArray)(y:Value):Prop where
 rs:RS c W st ev
 kp:Kp c.rb w W
 res:W.heap[w.heap.size]? =some (.cells #[.int .i64 0,.nilIface,.string ⟨#[]⟩,.nilIface] 263 (0,0))
 box:W.heap[b1]? =some (.cells #[.int .i64 p,x,.string sg,y] 263 (0,0))
 old:c.rb<w.heap.size/\c.tb<w.heap.size/\c.B<=w.heap.size/\w.heap.size<b1
theorem TS.step{c:Cx}{w:World}{d:Nat}{W W':World}{st st':St}{h e:Value}{p:Nat}{x f:Value}{g:ByteArray}(a:TS c w d W st h p x g f)(i:RS c W' st' e)(b:Kp c.rb W W'):TS c w d W' st' e p x g f:=
 ⟨i,a.kp.trans b,(b.block _ (aa a.res) (by have:=a.old.1;omega)).trans a.res,(b.block _ (aa a.box) (by have:=a.old;omega)).trans a.box,a.old⟩
theorem TS.set{c:Cx}{w:World}{b:Nat}{W:World}{st:St}{d:Value}{p i:Nat}{x e x' y' u:Value}{f sg':ByteArray}(a:TS c w b W st d p x f e)
  (g: #[.int .i64 p,x,.string f,e].setIfInBounds i u= #[.int .i64 p,x',.string sg',y']):TS c w b (W.setCell ⟨b,i,none⟩ u) st d p x' sg' y':=by
 have h:=a.old;refine⟨a.rs.kpb ((Kp.refl _ _).setCell _ _) (by omega) (by omega) (by omega) (fun p j=>by rw[a.box];simp),a.kp.setNew (by show w.heap.size<=b;omega) _,?_,?_,a.old⟩
 ·rw[Jp _ _ _ _ (by show w.heap.size≠b;omega)];exact a.res
 ·rw[am a.box,g]
theorem TS.setKeeps{W:World}{a i:Nat}{u:Value}:a7 (a+1) W (W.setCell ⟨a,i,none⟩ u):=a7.ofKp ((Kp.refl a W).setCell i u) (Or.inl (by omega))
theorem TS.fin{c:Cx}{w:World}{d:Nat}{W W':World}{st:St}{e:Value}{p:Nat}{x f:Value}{g:ByteArray}(a:TS c w d W st e p x g f)(b:Kp w.heap.size W W'):RS c W' st e/\Kp c.rb w W'/\a7 (d+1) W W':=by have h:=a.old;exact⟨a.rs.kpb b (by omega) (by omega) (by omega) (fun p i=>by rw[a.res];simp),a.kp.own b (Ji _),a7.ofKp b (Or.inl (by omega))⟩
theorem TS.lo{c:Cx}{w:World}{a:Nat}{W:World}{st:St}{b:Value}{p:Nat}{x d:Value}{e:ByteArray}(f:TS c w a W st b p x e d):a+1<=W.heap.size:=by have:=aa f.box;omega
theorem xt{P:Program}{w:World}{a:Addr}{v u:Value}{m:Mode}(b:v.oneCell'=true)(c:w.cell? a=some u)(d:w.frozen? a=false):(store a v m).run P w=.ok () (w.setCell a v):=by rw[run_store P w a v m b,c];simp[d]
theorem xu(c:Cx)(w:World)(st:St)(p:Value)(X:cn×St)(j:RS c w st p)(P:st.dp=0)(aI:Hid (X=eE c.ts st)):
  Calls prog 155 #[.pointer (some ⟨c.rb,0,none⟩)] w fun e w'=> ∃x b,e=.returned (.agg #[.int .i64 X.1.place,x,.string X.1.sg,b])/\jQ x/\jQ b/\eO c w X.2 w'/\(X.2.er=none->eD w' w.heap.size x X.1.l/\eD w' w.heap.size b X.1.r):=by
 have n:=ab j.last
 have Q:c.rb<w.heap.size/\c.tb<w.heap.size/\c.B<=w.heap.size:=⟨aa j.reader,by obtain⟨bz,aJ,_⟩:=j.tokens;exact aa aJ,j.env.size⟩
 obtain⟨D,E⟩:=ag Q j;clear j Q;have bA:=ec;go_enter func155,ntmps155;go_wp2_with fail;refine(cX c _ st p (by exact E.alloc _)).mono ?_;rintro e k ⟨rfl,R⟩;have q:=ab R;clear R;generalize S:(ah c.ts st.nx).place=l at*;have aL:=ab S;clear S;go_wp2_with fail
 have T:TS c w k.heap.size (k.alloc (.cells #[.int .i64 l,.nilIface,.string ⟨#[]⟩,.nilIface] 263)) st p l .nilIface ⟨#[]⟩ .nilIface:=by
  have aN:w.heap.size<k.heap.size:=by have:=q.size;simp at this;omega
  refine⟨(((E.alloc _).keep q).alloc _),(((Kp.refl c.rb w).alloc _).trans (Kp.ofBelow q)).alloc _,ai ((q.block w.heap.size (by simp)).trans (af rfl)),af rfl,D.1,D.2.1,D.2.2,aN⟩
 have r:=ab T;clear T;refine(gO c n _ st p (by exact r.rs) P).mono ?_;rintro e F ⟨x,rfl,s,⟨⟨aR,g⟩,d⟩,hex⟩;obtain⟨G,aT,aU⟩:=aC (r.step g d) (dn n st E.nx) hex;have V:k.heap.size+1<=(k.alloc (.cells #[.int .i64 l,.nilIface,.string ⟨#[]⟩,.nilIface] 263)).heap.size:=r.lo;have W:=ab V;have Y:=s.one;have Z:=s.cells;unfold Value.cells at Z;have ac:=ab s;clear g d hex V s r;generalize ad:bj c.ts st=h at*;have aV:=ab ad;clear ad;generalize bF:k.heap.size=a at*;obtain⟨ae,f2⟩:=blk G.box;have a0:=aa G.box;go_wp2_with fail;rw[xt (u:=.nilIface) Y (by rw[ae];rfl) (f2 _)]
 go_upto_region 3 with(fail)
 have t:=ab (G.set (i:=1) (u:=x) (x':=x) rfl);have a1:Hid (a7 (a+1) F (F.setCell ⟨a,1,none⟩ x)):=TS.setKeeps;clear ae f2 a0;generalize F.setCell ⟨a,1,none⟩ x=y at*;go_wp2_with fail;refine(dv c _ h.2 aR y.heap.size [⟨#[61]⟩,⟨#[60,62]⟩,⟨#[60]⟩,⟨#[60,61]⟩,⟨#[62]⟩,⟨#[62,61]⟩] (by exact t.rs.alloc _) (by exact bo rfl (fun a2 a3=>by match a2,a3 with|0,_=>rfl|1,_=>rfl|2,_=>rfl|3,_=>rfl|4,_=>rfl|5,_=>rfl)) (by simp) (dt (by decide))).mono ?_;rintro e z ⟨rfl,⟨a4,g⟩,d⟩;obtain⟨H,aj⟩:=ag (t.step g (((Kp.refl c.rb y).alloc _).trans d)) (aM n t.rs.nx [⟨#[61]⟩,⟨#[60,62]⟩,⟨#[60]⟩,⟨#[60,61]⟩,⟨#[62]⟩,⟨#[62,61]⟩]);have a5:Hid (a7 (a+1) y z):=t.rs.nodes (((Kp.refl c.rb y).alloc _).trans d);clear g d;generalize ak:iu c.ts h.2 [⟨#[61]⟩,⟨#[60,62]⟩,⟨#[60]⟩,⟨#[60,61]⟩,⟨#[62]⟩,⟨#[62,61]⟩]=m at*;generalize al:aH c.ts h.2 [⟨#[61]⟩,⟨#[60,62]⟩,⟨#[60]⟩,⟨#[60,61]⟩,⟨#[62]⟩,⟨#[62,61]⟩]=A at*;obtain⟨a9,a'⟩:=ag ak al;clear ak al;have ba:A.dp=0:=aj.dp.trans (aT.dp.trans P);obtain⟨bb,f4⟩:=blk H.box;have bc:=aa H.box
 go_upto_region 4 with(fail)
 have o:=ab (H.set (i:=2) (u:=.string m) (sg':=m) rfl);have be:Hid (a7 (a+1) z (z.setCell ⟨a,2,none⟩ (.string m))):=TS.setKeeps;clear bb f4 bc;generalize z.setCell ⟨a,2,none⟩ (.string m)=bg at*;go_wp2_with fail;refine(gO c n _ A a4 (by exact o.rs) ba).mono ?_;rintro e B ⟨b,rfl,C,⟨⟨bk,g⟩,d⟩,an⟩;obtain⟨I,bl⟩:=ag (o.step g d) (dn n A o.rs.nx);have bn:Hid (a7 (a+1) bg B):=o.rs.nodes d;have bq:=ab an;have ao:=ab o.lo;have ap:=C.one;have ar:=C.cells;unfold Value.cells at ar;have au:=ab C;clear g d an C;generalize av:bj c.ts A=ax at*;have br:=ab av;clear av;obtain⟨ay,f6⟩:=blk I.box;have bs:=aa I.box;go_wp2_with fail;rw[xt (u:=.nilIface) ap (by rw[ay];rfl) (f6 _)]
 go_upto_region 5 with(fail)
 have f:=ab (I.set (i:=3) (u:=b) (y':=b) rfl);have aA:Hid (a7 (a+1) B (B.setCell ⟨a,3,none⟩ b)):=TS.setKeeps;clear ay f6 bs;generalize B.setCell ⟨a,3,none⟩ b=bG at*;obtain⟨bJ,f7⟩:=blk f.box;obtain⟨bt,bL⟩:=blk f.res;have bN:=aa f.box;have bS:=aa f.res;have bX:w.heap.size≠a:=by have:=f.old;omega
 have J:Hid (X=(⟨l,h.1,m,ax.1⟩,ax.2)):=by
  rw[U aI];unfold Hid eE;rw[U aL,U aV]
  show((⟨l,h.1,iu c.ts h.2 [⟨#[61]⟩,⟨#[60,62]⟩,⟨#[60]⟩,⟨#[60,61]⟩,⟨#[62]⟩,⟨#[62,61]⟩],(bj c.ts (aH c.ts h.2 [⟨#[61]⟩,⟨#[60,62]⟩,⟨#[60]⟩,⟨#[60,61]⟩,⟨#[62]⟩,⟨#[62,61]⟩])).1⟩:cn),(bj c.ts (aH c.ts h.2 [⟨#[61]⟩,⟨#[60,62]⟩,⟨#[60]⟩,⟨#[60,61]⟩,⟨#[62]⟩,⟨#[62,61]⟩])).2)=_
  rw[U a9,a',U br]
 clear Y ap Z ar;rcases U ac with hxx|⟨u1,q1,hxx⟩<;>rcases U au with hyy|⟨u2,q2,hyy⟩
 all_goals
  go_wp2;refine Jr (v:=.agg #[.int .i64 l,x,.string m,b]) (by simp[results,results155,go_sem,bt,hxx,hyy]) rfl ⟨x,b,?_,ac,au,⟨⟨bk,?_⟩,?_⟩,fun K=>?_⟩
  ·rw[U J]
  ·rw[U J];refine(f.fin ?_).1;exact((((Kp.refl _ _).setCell _ _).setCell _ _).setCell _ _).setCell _ _
  ·refine(f.fin ?_).2.1;exact((((Kp.refl _ _).setCell _ _).setCell _ _).setCell _ _).setCell _ _
  ·rw[U J]at K⊢;have b0:=f.old;have bu:=bl.er K;have bv:=aj.er bu;have bx:=a1.trans (a5.trans (be.trans (bn.trans aA)));refine⟨((aU bv).keep W (fun L M N O=>bx L M N (Jt W O))).keep (by omega) ((f.fin ?_).2.2),((bq K).keep ao (fun L M N O=>U aA L M N (Jt ao O))).keep (by omega) ((f.fin ?_).2.2)⟩
   ·exact((((Kp.refl _ _).setCell _ _).setCell _ _).setCell _ _).setCell _ _
   ·exact((((Kp.refl _ _).setCell _ _).setCell _ _).setCell _ _).setCell _ _
def dH(ts:List Tk)(st:St):(Tk×Tk)×St:=((bP ts st 2,bP ts (cx ts st 2) 2),cx ts (cx ts st 2) 2)
theorem iV{ts:List Tk}(a:cO ts):mN ts (dH ts):=fun _ b=>(dx a b (by decide)).trans (dx a (dx a b (k:=2) (by decide)).lt (by decide))
theorem oU(c:Cx)(w:World)(st:St)(l:Value)(X:(Tk×Tk)×St)(a:RS c w st l)(u:Hid (X=dH c.ts st)):
  Calls prog 154 #[.pointer (some ⟨c.rb,0,none⟩)] w fun e w'=>e=.returned (.agg #[.int .i64 X.1.1.place,.int .i64 X.1.1.place,.string X.1.1.text,.int .i64 X.1.2.place,.string X.1.2.text])/\eO c w X.2 w':=by
 have g:w.heap.size≠c.rb:=by have:=aa a.reader;omega
 have x:w.heap.size≠c.tb:=by obtain⟨N,y,_⟩:=a.tokens;have:=aa y;omega
 have z:=a.env.size;have A:=ab a;clear a;go_enter func154,ntmps154;go_wp2_with fail;refine(gN c _ st l (by exact A.alloc _)).mono ?_;rintro e m ⟨rfl,⟨B,n⟩,h⟩;have i:=ab ((h.block w.heap.size (by simp) g).trans (af rfl));obtain⟨C,f1⟩:=blk i;have O:=aa i;obtain⟨o,D⟩:=ag n (((Kp.refl c.rb w).alloc _).trans h);clear n h;have E:m.heap.size≠c.rb:=by have:=aa o.reader;omega
 generalize p:bP c.ts st 2=d at*;generalize q:cx c.ts st 2=j at*;obtain⟨F,G⟩:=ag p q;clear p q;go_wp2_with fail
 go_region_with (go_at_call 148;refine(gN c _ j B (by exact(o.alloc _).drew)).mono ?_;rintro e P ⟨rfl,⟨H,r⟩,f⟩;have s:=ab ((f.block w.heap.size (by simp;omega) g).trans (by exact ai i));obtain⟨I,f3⟩:=blk s;obtain⟨Q,f4⟩:=blk ((f.block m.heap.size (by simp) E).trans (by exact af rfl));have J:=ab r;have K:=ab ((D.alloc _).drew.trans f);clear r f C f1)
 all_goals
  generalize t:bP c.ts j 2=k at*;have L:=ab t;clear t;go_wp2;have M:X=((d,k),cx c.ts j 2):=by rw[U u];unfold dH;rw[U F,G,U L]
  subst M;refine Jr (v:=.agg #[.int .i64 d.place,.int .i64 d.place,.string d.text,.int .i64 k.place,.string k.text]) (by simp[results,results154,go_sem,I]) rfl ⟨rfl,⟨H,?_⟩,?_⟩
  ·refine J.kpb (b:=w.heap.size) ?_ g x z (fun R e=>by rw[U s];simp);exact(((((Kp.refl _ _).setCell _ _).setCell _ _).setCell _ _).setCell _ _).setCell _ _
  ·exact(((((K.setNew (Ji _) _).setNew (Ji _) _).setNew (Ji _) _).setNew (Ji _) _).setNew (Ji _) _)
def dO(l:List (Tk×Tk)):List Value:=l.flatMap fun a=>[.int .i64 a.1.place,.int .i64 a.1.place,.string a.1.text,.int .i64 a.2.place,.string a.2.text]
theorem xw(l:List (Tk×Tk))(t:Tk×Tk):dO l++[.int .i64 t.1.place,.int .i64 t.1.place,.string t.1.text,.int .i64 t.2.place,.string t.2.text]=dO (l++[t]):=by simp[dO]
structure wI(c:Cx)(w:World)(most:Nat)(d:Nat)(R:List (Tk×Tk)×St)(f:Nat)(v:Value)(wr:World)(l:List (Tk×Tk))(st':St)(ev':Value):Prop where
 rs:RS c wr st' ev'
 kp:Kp c.rb w wr
 row:wr.ownsRow w.heap.size 260 5 v l.length (dO l)
 pos:0<l.length
 few:l.length<=st'.nx+1
 eq:R=cA c.ts (dH c.ts) most f l st'
 fuel:c.ts.length<=f+st'.nx
 dp:st'.dp=d
theorem Av{c:Cx}{w wr i j e f:World}{a d gk:Nat}{R:List (Tk×Tk)×St}{v v':Value}{l:List (Tk×Tk)}{bR st':St}{t u k:Value}{t5:Tk×Tk}(b:wI c w a d R (gk+1) v wr l st' u)(m:az c.ts st' jm=true)(n:cO c.ts)(x:c.rb<w.heap.size)(o:RS c w bR t)
  (y:Kp c.rb wr i) (z:Kp c.rb i j) (A:RS c e ((dH c.ts (many c.ts a l.length (aD st'))).2) k) (B:Kp c.rb j e) (C:(dH c.ts (many c.ts a l.length (aD st'))).1=t5)
  (p:e.ownsRow w.heap.size 260 5 v l.length (dO l)) (D:f.ownsRow w.heap.size 260 5 v' (l.length+1) (dO l++[.int .i64 t5.1.place,.int .i64 t5.1.place,.string t5.1.text,.int .i64 t5.2.place,.string t5.2.text]))
  (q:(e.alloc (.cells #[.int .i64 t5.1.place,.int .i64 t5.1.place,.string t5.1.text,.int .i64 t5.2.place,.string t5.2.text] 260)).grownBy f v.ownBlock):
  wI c w a d R gk v' f (l++[t5]) ((dH c.ts (many c.ts a l.length (aD st'))).2) k:=by
 have r:=bB n b.rs.nx (aW m);have g:=eh r.lt a l.length;have s:=iV n _ g.lt;have E:c.tb<w.heap.size:=by obtain⟨G,F,_⟩:=o.tokens;exact aa F
 have H:st'.nx+1<=((dH c.ts (many c.ts a l.length (aD st'))).2).nx:=Jt g.nx s.nx;refine⟨(A.alloc _).grown (p.alloc _) q (by decide) x E o.env.size,?_,?_,by simp,?_,?_,?_,?_⟩
 ·exact Kp.grown ((((b.kp.trans y).trans z).trans B).alloc _) (p.alloc _) q (Ji _)
 ·rw[<-xw,Jk];exact D
 ·have:=b.few;rw[Jk];simp;omega
 ·have h:=b.eq;unfold cA at h;rw[Jo m]at h;rw[h,<-C]
 ·have:=b.fuel;omega
 ·exact(s.dp.trans (g.dp.trans r.dp)).trans b.dp
theorem Hq:(prog.info? 260).map (fun i=>(i.zero,i.size,i.bytes))=some (some (.agg #[.int .i64 0,.int .i64 0,.string ⟨#[]⟩,.int .i64 0,.string ⟨#[]⟩]),5,56):=by kernel_rfl
theorem zH(c:Cx)(w:World)(st:St)(T:Value)(b:Nat)(R:List (Tk×Tk)×St)(j:RS c w st T)(_hm:b<=1001)(aA:Hid (R=dE c.ts (dH c.ts) b st)):
  Calls prog 153 #[.pointer (some ⟨c.rb,0,none⟩),.int .i64 b,.func (.func 154) #[.pointer (some ⟨c.rb,0,none⟩)] #[]] w fun e w'=> ∃v,e=.returned v/\w'.ownsRow w.heap.size 260 5 v R.1.length (dO R.1)/\0<R.1.length/\eO c w R.2 w':=by
 obtain⟨V,W,X⟩:=Jq.1 Hq;simp only[JB]at X;obtain⟨Y,Z,ac⟩:=X;obtain⟨ad,ae,aj,ak⟩:=aP W Y Z ac;have D:=ab j.last;have a2:=j.len;have g:=aa j.reader;have z:=ab j;clear W Y Z ac j;go_enter func153,ntmps153;go_wp2_with fail;refine(oU c _ st T _ (by exact z) rfl).mono ?_;rintro e E ⟨rfl,⟨aI,al⟩,F⟩
 have an:Hid (wI c w b st.dp R c.ts.length (.slice (some ⟨E.heap.size,0,none⟩) 1 1) (E.alloc (.cells #[.int .i64 (dH c.ts st).1.1.place,.int .i64 (dH c.ts st).1.1.place,.string (dH c.ts st).1.1.text,.int .i64 (dH c.ts st).1.2.place,.string (dH c.ts st).1.2.text] 260)) [(dH c.ts st).1] (dH c.ts st).2 aI):=
  ⟨al.alloc _,F.alloc _,LL E #[.int .i64 (dH c.ts st).1.1.place,.int .i64 (dH c.ts st).1.1.place,.string (dH c.ts st).1.1.text,.int .i64 (dH c.ts st).1.2.place,.string (dH c.ts st).1.2.text] 1 F.size (by unfold maxLen;omega) rfl,by simp,by simp,by rw[U aA];rfl,by omega,(iV D st z.nx).dp⟩
 clear al F;generalize(dH c.ts st).1=a3 at*;go_wp2_with fail
 go_loopg [7] c.ts.length (fun aJ aL wr=> ∃f d k,wI c w b st.dp R aJ aL wr f d k)
 case atStart=>exact⟨_,_,_,an⟩
 case round=>
  obtain⟨f,d,k,hrel⟩:=hrel;have a:=ab hrel;clear hrel an
  match gk,a with
  |0,a=>exact absurd a.fuel (by have:=a.rs.nx;omega)
  |gk+1,a=>
  cases A:az c.ts d jm with
  |false=>have i:=ab A;clear A;go_wp2_with fail;refine(eF c _ d k ⟨#[44]⟩ (by exact a.rs) (by exact i)).mono ?_;rintro e l ⟨rfl,ao⟩;have G:=ab ao;clear ao;go_wp2;go_ret;have H:=a.eq;unfold cA at H;rw[Jn (by rw[U i];decide)]at H;subst H;exact⟨_,rfl,fQ a.row G,a.pos,⟨k,a.rs.keep G⟩,a.kp.trans (Kp.ofBelow G)⟩
  |true=>
   have i:=ab A;clear A;obtain⟨a4,a5,aN⟩:=dy a.row a.pos;subst aN;have a9:=a.few;have a':=a.rs.nx;go_wp2_with fail;refine(fu c _ d k ⟨#[44]⟩ (by exact a.rs) (by rw[JA];rfl) (by exact i)).mono ?_;rintro e l ⟨rfl,⟨ap,ar⟩,au⟩;obtain⟨I,m⟩:=ag ar au;clear ar au;have ba:=I.env.cell 4 (by decide);have av:=ab (bf a.row m g);by_cases B:f.length=b
   ·have aR:(((f.length:Nat):Int)==(b:Int))=true:=by simp;omega
    have J:=ab B;clear B;go_wp2_with fail;refine(iC c _ (aD d) ap cB (by exact I)).mono ?_;rintro e C ⟨rfl,⟨n,ax⟩,K⟩;have L:Hid (RS c C (many c.ts b f.length (aD d)) n):=by unfold many;rw[Jo (U J)];exact ax
    obtain⟨o,M⟩:=ag K (bf av K g);clear ax K;go_wp2_with fail;refine(oU c _ _ n _ (by exact L) rfl).mono ?_;rintro e p ⟨rfl,⟨N,q⟩,h⟩;obtain⟨O,r,s⟩:=aC q h (bf (bf M h g) (Kp.refl c.rb p) g);clear q h;generalize t:(dH c.ts (many c.ts b f.length (aD d))).1=t5 at*;have P:=ab t;clear t;go_wp2_with (at_builtin;refine Kd _ rfl _ _ 253 rfl w.heap.size 260 V (.agg #[.int .i64 0,.int .i64 0,.string ⟨#[]⟩,.int .i64 0,.string ⟨#[]⟩]) 5 56 underlying253 ad ae aj ak rfl (by decide) _ _ _ rfl (s.alloc _) ⟨p.heap.size,0,none⟩ 1 1 [.int .i64 t5.1.place,.int .i64 t5.1.place,.string t5.1.text,.int .i64 t5.2.place,.string t5.2.text] rfl rfl ?c1 ?c2 ?c3 ?c4 ?c5 ?_)
    case c1=>exact cQ rfl
    case c2=>intro aT u;simp only[JG,JO,Kg]at u;rcases u with rfl|rfl|rfl|rfl|rfl<;>rfl
    case c3=>unfold maxLen;omega
    case c4=>omega
    case c5=>have:=a.kp.size;have:=m.size;have:=o.size;have:=r.size;simp;omega
    intro aU aV x y _;obtain⟨Q,S⟩:=ag x y;clear x y;go_wp2;go_roundg gk
    case measure=>omega
    case rel=>exact⟨_,_,N,Av a i D g z m o O r P s Q S⟩
   ·have aR:(((f.length:Nat):Int)==(b:Int))=false:=by simp;omega
    have J:=ab B;clear B
    obtain⟨C,a0⟩: ∃C,C=l:=⟨_,rfl⟩
    obtain⟨n,ay⟩: ∃a1,a1=ap:=⟨_,rfl⟩
    have L:Hid (RS c l (many c.ts b f.length (aD d)) n):=by unfold many;rw[Jn (U J),ay];exact I
    have o:Hid (Kp c.rb l l):=Kp.refl _ _;have M:=av;clear a0 ay;go_wp2_with fail;refine(oU c _ _ n _ (by exact L) rfl).mono ?_;rintro e p ⟨rfl,⟨N,q⟩,h⟩;obtain⟨O,r,s⟩:=aC q h (bf (bf M h g) (Kp.refl c.rb p) g);clear q h;generalize t:(dH c.ts (many c.ts b f.length (aD d))).1=t5 at*;have P:=ab t;clear t;go_wp2_with (at_builtin;refine Kd _ rfl _ _ 253 rfl w.heap.size 260 V (.agg #[.int .i64 0,.int .i64 0,.string ⟨#[]⟩,.int .i64 0,.string ⟨#[]⟩]) 5 56 underlying253 ad ae aj ak rfl (by decide) _ _ _ rfl (s.alloc _) ⟨p.heap.size,0,none⟩ 1 1 [.int .i64 t5.1.place,.int .i64 t5.1.place,.string t5.1.text,.int .i64 t5.2.place,.string t5.2.text] rfl rfl ?c1 ?c2 ?c3 ?c4 ?c5 ?_)
    case c1=>exact cQ rfl
    case c2=>intro aT u;simp only[JG,JO,Kg]at u;rcases u with rfl|rfl|rfl|rfl|rfl<;>rfl
    case c3=>unfold maxLen;omega
    case c4=>omega
    case c5=>have:=a.kp.size;have:=m.size;have:=o.size;have:=r.size;simp;omega
    intro aU aV x y _;obtain⟨Q,S⟩:=ag x y;clear x y;go_wp2;go_roundg gk
    case measure=>omega
    case rel=>exact⟨_,_,N,Av a i D g z m o O r P s Q S⟩
end
end Go.Proofs.YtfkeddkfegaeiaaGreatDoor
