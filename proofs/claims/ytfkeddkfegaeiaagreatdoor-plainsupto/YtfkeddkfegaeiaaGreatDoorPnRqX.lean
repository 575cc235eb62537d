import Derived.Test.YtfkeddkfegaeiaaGreatDoorPnRqV
set_option maxRecDepth 100000
set_option maxHeartbeats 20000000
namespace Go.Proofs.YtfkeddkfegaeiaaGreatDoor
section
open Go.RowKit Tryz
def gG(x x':Xs):Prop:= ∃a,x'.en=x.en++a
theorem gG.refl(x:Xs):gG x x:=⟨[],(JD _).symm⟩
theorem gG.trans{x a b:Xs}(c:gG x a)(k:gG a b):gG x b:=by obtain⟨d,e⟩:=c;obtain⟨f,g⟩:=k;exact⟨d++f,by rw[g,e,Kf]⟩
abbrev qo(xs:List RE)(ri:List RI)(l:List bH):Prop:=di (fun r i=>rF xs r.call r.n r.v1 r.v2 r.asx i) ri l
theorem qo.ext{x x':Xs}{a:List RI}{l:List bH}(b:qo x.en a l)(e:gG x x'):qo x'.en a l:=by obtain⟨c,d⟩:=e;rw[d];exact di.imp (fun _ _ f=>f.more c) b
theorem vM.ext{x x':Xs}{rs:List RP}{l:List cn}(c:di (vM x.en) rs l)(e:gG x x'):di (vM x'.en) rs l:=by obtain⟨b,d⟩:=e;rw[d];exact di.imp (fun _ _ a=>⟨a.1,a.2.1.more b,a.2.2.more b⟩) c
theorem fF.ext{x x':Xs}{n:Int}{k:List Nd}(a:fF x.en n k)(e:gG x x'):fF x'.en n k:=by obtain⟨b,c⟩:=e;rw[c];exact a.more b
theorem rF.ext{x x':Xs}{a:ByteArray}{n:Int}{b c:Value}{d:ByteArray}{i:bH}(f:rF x.en a n b c d i)(e:gG x x'):rF x'.en a n b c d i:=by obtain⟨g,h⟩:=e;rw[h];exact f.more g
structure L1(c:Cf)(w:World)(x0:Xs)(X:List bH×St)(f:Nat)(W:World)(vi:Value)(ri:List RI)(l:List bH)(st:St)(x:Xs)(more:Bool):Prop where
 ls:kQ c w x0 (em c.ts) (many c.ts 6) ⟨#[44]⟩ X f W l st x more
 sb:SB c w x0 W st x vi (.slice none 0 0) (.slice none 0 0) (.slice none 0 0)
 own:cS c w 228 7 W x vi l.length (fX ri)
 cnt:l.length+f=c.ts.length
 ok:st.er=none->qo x.en ri l
structure L2(c:Cf)(w:World)(x0:Xs)(X:List (Tk×Tk)×St)(f:Nat)(W:World)(vi:Value)(li:Nat)(ri:List RI)(il:List bH)(vt vn:Value)(rt rn:List RT)(l:List (Tk×Tk))(st:St)(x:Xs)(more:Bool):Prop where
 ls:kQ c w x0 (dH c.ts) (many c.ts 3) ⟨#[44]⟩ X f W l st x more
 sb:SB c w x0 W st x vi vt vn (.slice none 0 0)
 oi:cS c w 228 7 W x vi li (fX ri)
 ot:cS c w 100 3 W x vt l.length (fj rt)
 on:cS c w 100 3 W x vn l.length (fj rn)
 ap: ∀b,vt.ownBlock=some b->vn.ownBlock≠some b
 cnt:l.length+f=c.ts.length
 it:st.er=none->qo x.en ri il
 ok:st.er=none->di (fun r (p:Tk×Tk)=>me r p.1) rt l/\di (fun r (p:Tk×Tk)=>me r p.2) rn l
structure R3(c:Cf)(w:World)(W:World)(x:Xs)(vi:Value)(li:Nat)(ri:List RI)(vt vn:Value)(lt:Nat)(rt rn:List RT):Prop where
 oi:cS c w 228 7 W x vi li (fX ri)
 ot:cS c w 100 3 W x vt lt (fj rt)
 on:cS c w 100 3 W x vn lt (fj rn)
theorem R3.step{c:Cf}{w W W':World}{x x':Xs}{d:Value}{e:Nat}{f:List RI}{g h:Value}{i:Nat}{j k:List RT}(a:R3 c w W x d e f g h i j k)(b:GX c W x W' x'):R3 c w W' x' d e f g h i j k:=⟨a.oi.step b,a.ot.step b,a.on.step b⟩
theorem R3.keep{c:Cf}{w W W':World}{x:Xs}{d:Value}{e:Nat}{f:List RI}{g h:Value}{i:Nat}{j k:List RT}(a:R3 c w W x d e f g h i j k)(b:Below W.heap.size W W'):R3 c w W' x d e f g h i j k:=⟨a.oi.keep b,a.ot.keep b,a.on.keep b⟩
theorem R3.set{c:Cf}{w W:World}{x:Xs}{b:Value}{d:Nat}{e:List RI}{f g:Value}{h:Nat}{j k:List RT}{i:Nat}{u:Value}(a:R3 c w W x b d e f g h j k):R3 c w (W.setCell ⟨w.heap.size+1,i,none⟩ u) x b d e f g h j k:=⟨a.oi.set,a.ot.set,a.on.set⟩
theorem R3.sep{c:Cf}{w W W':World}{x:Xs}{d:Value}{e:Nat}{f:List RI}{g h i:Value}{j n:Nat}{l m:List RT}{o:List Value}(a:R3 c w W x d e f g h j l m)(k:cS c w 273 3 W x i n o)(b:W.grownBy W' i.ownBlock):R3 c w W' x d e f g h j l m:=
 ⟨a.oi.sep k (by decide) b,a.ot.sep k (by decide) b,a.on.sep k (by decide) b⟩
theorem R3.kpw{c:Cf}{w W W':World}{x:Xs}{d:Value}{e:Nat}{f:List RI}{g h:Value}{i:Nat}{j k:List RT}(a:R3 c w W x d e f g h i j k)(b:Kp w.heap.size W W'):R3 c w W' x d e f g h i j k:=
 ⟨⟨bf a.oi.row b (by omega),a.oi.off⟩,⟨bf a.ot.row b (by omega),a.ot.off⟩,⟨bf a.on.row b (by omega),a.on.off⟩⟩
structure L3(c:Cf)(w:World)(x0:Xs)(X:List cn×St)(f:Nat)(W:World)(vi:Value)(li:Nat)(ri:List RI)(il:List bH)(vt vn:Value)(lt:Nat)(rt rn:List RT)(sl:List (Tk×Tk))(vs:Value)(rs:List RP)(l:List cn)(st:St)(x:Xs)(more:Bool):Prop where
 ls:kQ c w x0 (eE c.ts) (fun _ s=>s) ⟨#[97,110,100]⟩ X f W l st x more
 sb:SB c w x0 W st x vi vt vn vs
 r3:R3 c w W x vi li ri vt vn lt rt rn
 own:cS c w 273 3 W x vs l.length (gF rs)
 cnt:l.length+f=c.ts.length
 it:st.er=none->qo x.en ri il/\di (fun r (p:Tk×Tk)=>me r p.1) rt sl/\di (fun r (p:Tk×Tk)=>me r p.2) rn sl
 ok:st.er=none->di (vM x.en) rs l
def wN(ts:List Tk):Prop:= ∀a,Lib.containsS eH (ah ts a).text=true->(ah ts a).kind=1
theorem DB{w:World}{b:Nat}(a:b=w.heap.size):fI (w.alloc (.cells #[.string ⟨#[61]⟩,.string ⟨#[60,62]⟩,.string ⟨#[60]⟩,.string ⟨#[60,61]⟩,.string ⟨#[62]⟩,.string ⟨#[62,61]⟩] 9)) b eH:=
 bo a (fun j c=>by match j,c with|0,_|1,_|2,_|3,_|4,_|5,_=>rfl)
theorem AW{c:Cf}{w:World}{st:St}{x:Xs}(a:RX c w st x)(d:Lib.containsS eH (ah c.ts x.I).text=false∨(jq st.er==0)=false):az c.ts st eH=false:=by
 by_cases b:st.er=none
 ·rcases d with q|q
  ·rw[RF.cor a b]at q;unfold az;rw[q,Li]
  ·rw[b]at q;cases q
 ·exact jr (RF.last a) (RF.stopped a b) _
theorem GS{c:Cf}{w:World}{st:St}{x:Xs}(d:RX c w st x)(e:wN c.ts)(a:Lib.containsS eH (ah c.ts x.I).text=true)(b:(jq st.er==0)=true):az c.ts st eH=true:=by
 have f:st.er=none:=by
  cases g:st.er with
  |none=>rfl
  |some i=>have h:=oz (er:=st.er) (by rw[g];simp);simp only[KD]at b;exact(h b).elim
 rw[RF.cor d f]at a;unfold az;rw[e _ a,a];rfl
theorem wO{a:Type}{l:List a}{g n:Nat}(b:l.length+(g+1)=n)(hn:n<=1001):l.length<=1000:=by omega
theorem ja(c:Cf)(cL:Lw c.ts)(fn:jB c.ts)(fo:wN c.ts)(w:World)(st:St)(x:Xs)(cN:RX c w st x)(hy:st.dp=0):
  Calls prog 69 #[.pointer (some ⟨c.rb,0,none⟩)] w fun e w'=> ∃(bg bk fp fq:Option Addr) (a' c1 aI c2 d' c4 c3:Nat) (x':Xs) (r:List RI) (I J:List RT) (rs:List RP),e=.returned (.agg #[.slice bg a' c1,.slice bk aI c2,.slice fp aI c3,.slice fq d' c4,.bool true])/\RX c w' (fJ c.ts st).2 x'/\GX c w x w' x'/\R3 c w w' x' (.slice bg a' c1) a' r (.slice bk aI c2) (.slice fp aI c3) aI I J/\cS c w 273 3 w' x' (.slice fq d' c4) d' (gF rs)/\((fJ c.ts st).2.er=none->qn x'.en r I J rs (fJ c.ts st).1):=by
 obtain⟨hz,bl,bn⟩:=Jq.1 Ik;simp only[JB]at bn;obtain⟨bq,br,bs⟩:=bn;obtain⟨hA,hB,hC,hD⟩:=aP bl bq br bs;clear bl bq br bs;obtain⟨fr,bl,bn⟩:=Jq.1 yp;simp only[JB]at bn;obtain⟨bq,br,bs⟩:=bn;obtain⟨fs,ft,fv,fw⟩:=aP bl bq br bs;clear bl bq br bs;obtain⟨hE,bl,bn⟩:=Jq.1 Il;simp only[JB]at bn;obtain⟨bq,br,bs⟩:=bn;obtain⟨hF,hG,hH,hI⟩:=aP bl bq br bs;clear bl bq br bs;have ea:=RF.len cN;have fx:=ab cN;have Z:=ab cL.last;obtain⟨eb,ed,hJ⟩:=aC cL fn fo;have hK:=RF.nx cN;have hL:=ab (aM cL.last hK [⟨#[115,101,108,101,99,116]⟩]);clear cN cL fn fo;go_enter func69,ntmps69;go_wp2_with fail
 have ef:Hid (SB c w x ((w.alloc (.cells #[.slice none 0 0,.slice none 0 0,.slice none 0 0,.slice none 0 0,.bool false] 105)).alloc (.cells #[.slice none 0 0,.slice none 0 0,.slice none 0 0,.slice none 0 0,.bool true] 105)) st x (.slice none 0 0) (.slice none 0 0) (.slice none 0 0) (.slice none 0 0)):=
  have a1:Below w.heap.size w _:=((Jj _ _).alloc (Ji _) (.cells #[.slice none 0 0,.slice none 0 0,.slice none 0 0,.slice none 0 0,.bool false] 105)).alloc (by simp) (.cells #[.slice none 0 0,.slice none 0 0,.slice none 0 0,.slice none 0 0,.bool true] 105)
  ⟨fx.keep a1,GX.below (GX.refl _ _ _) a1,ai (af rfl),af (by simp),fun k eg _=>fx.off eg⟩
 refine(eJ c _ st x ⟨#[115,101,108,101,99,116]⟩ (by exact ef.rx)).mono ?_;rintro e hM ⟨hN,rfl,f,b⟩;have cR:=ab (ef.step f b);have hO:(aH c.ts st [⟨#[115,101,108,101,99,116]⟩]).dp=0:=hL.dp.trans hy;clear f b ef;generalize fy:aH c.ts st [⟨#[115,101,108,101,99,116]⟩]=cT at*;have hP:=ab fy;clear fy
 obtain⟨t,fz⟩: ∃b7,Hid (b7=dE c.ts (em c.ts) 6 cT):=⟨_,rfl⟩
 have ei:=ab (kQ.first (em c.ts) (many c.ts 6) ⟨#[44]⟩ cR.rx cR.gx hO (jW (by decide)));rw[show jC c.ts (em c.ts) (many c.ts 6) ⟨#[44]⟩ c.ts.length [(em c.ts cT).1] (em c.ts cT).2=t by rw[U fz];unfold dE;rw[kP]]at ei
 have fO:Hid (L1 c w x t c.ts.length hM (.slice none 0 0) [] [] cT hN true):=⟨U ei,cR,cS.nil _ _ _ _ _ _,by simp,fun _=>trivial⟩
 clear ei cR;go_wp2_with fail
 go_loopg [4] c.ts.length (fun b9 b' wr=> ∃f' r d j x' X,b'=.bool X/\L1 c w x t b9 wr f' r d j x' X)
 case atStart=>exact⟨_,_,_,_,_,_,rfl,fO⟩
 case round=>
  obtain⟨f',r,d,j,x',X,rfl,hrel⟩:=hrel;have g:=ab hrel;clear fO
  cases X with
  |true=>
   obtain⟨gk,rfl⟩:=hrel.ls.pos;have ga:d.length<=1000:=wO hrel.cnt ea;have o:=hrel.own.row;obtain⟨K,L,ac⟩:=a8 o;subst ac;obtain⟨⟨z,C⟩,⟨D,E⟩,F⟩:=hrel.sb.facts;have ba:=RF.nx hrel.ls.rx;have bS:=hrel.ls.dp;clear hrel o
   obtain⟨S,G⟩: ∃S,Hid (S=many c.ts 6 d.length j):=⟨_,rfl⟩
   have gb:S.dp=0:=by rw[U G,oF];exact bS
   have bF:S.nx<c.ts.length:=by rw[U G];exact(eh ba 6 d.length).lt
   go_upto_if 19 with(fail)
   go_cut [] (fun M=> ∃l,SB c w x M S l (.slice K d.length L) (.slice none 0 0) (.slice none 0 0) (.slice none 0 0)/\cS c w 228 7 M l (.slice K d.length L) d.length (fX r)/\gG x' l)
   case first=>
    by_cases a2:d.length=6
    ·have en:((d.length:Int)==6)=true:=by rw[a2];rfl
     have bG:Hid (S=bM c.ts j cB):=by unfold Hid;rw[U G];unfold many;rw[Jo a2]
     go_wp2_with fail;refine(yB c _ j x' (by exact g.sb.rx)).mono ?_;rintro e p ⟨l,rfl,f,b⟩;have bX:Hid (gG x' l):=b.more;obtain⟨Q,ak⟩:=ag (g.sb.step f b) (g.own.step b);clear f b;go_wp2_with fail;go_meet
     case rel=>rw[U bG];exact⟨l,Q,ak,bX⟩
    ·have en:((d.length:Int)==6)=false:=by simp only[Kb,ne_eq];omega
     have bG:Hid (S=j):=by unfold Hid;rw[U G];exact jW a2
     go_wp2_with fail;go_meet
     case rel=>rw[U bG];exact⟨x',g.sb,g.own,gG.refl _⟩
   case rest=>
    obtain⟨l,bt,ca,bu⟩:=hcut;obtain⟨Q,ak,cb⟩:=aC bt ca bu;clear bt ca bu z C D E F;go_wp2_with fail;refine(GR c eb ed _ S l (by exact Q.rx) gb).mono ?_;rintro e ad ⟨cc,cd,ce,bg,bk,a',c1,aI,c2,cf,cg,b0,rfl,f,b,ch⟩;obtain⟨al,a3,eo⟩:=aC (Q.step f b) (ak.step b) ch;have ci:Hid (gG x' b0):=cb.trans b.more;clear f b ch Q ak;have o:=a3.row;have an:=ab o;clear o;obtain⟨⟨z,C⟩,⟨D,E⟩,F⟩:=al.facts;have hQ:w.heap.size+2<=ad.heap.size:=by omega
    have h:Hid (Below ad.heap.size ad ((ad.alloc (.cells #[.int .i64 cc,.string cd,.int .i64 ce,.slice bg a' c1,.slice bk aI c2,.int .i64 cf,.string cg] 228)).alloc (.cells #[.int .i64 cc,.string cd,.int .i64 ce,.slice bg a' c1,.slice bk aI c2,.int .i64 cf,.string cg] 228))):=((Jj _ _).alloc (Ji _) _).alloc (by simp) _;go_wp2_with (at_builtin;refine JT _ rfl _ _ 102 rfl (w.heap.size+2) 228 hz (.agg #[.int .i64 0,.string ⟨#[]⟩,.int .i64 0,.slice none 0 0,.slice none 0 0,.int .i64 0,.string ⟨#[]⟩]) 7 104 underlying102 hA hB hC hD rfl (by decide) _ _ _ rfl ((an.alloc _).alloc _) ⟨ad.heap.size+1,0,none⟩ 1 1 [.int .i64 cc,.string cd,.int .i64 ce,.slice bg a' c1,.slice bk aI c2,.int .i64 cf,.string cg] rfl rfl ?c1 ?c2 (by decide) ?c3 ?c4 ?c5 _ rfl ?_)
    case c1=>exact cQ (by first|rfl|simp)
    case c2=>exact IY _ _ _ _ _ _ _ _ _ _ _
    case c3=>unfold maxLen;omega
    case c4=>omega
    case c5=>simp;omega
    intro A N a4 aJ b ae _;obtain⟨T,ao⟩:=ag ((al.keep h).grown (a3.keep h) b) ((a3.keep h).grown (al.keep h).rx aJ (ae.imp id (fun e=>by rw[e];first|exact Ji _|(simp;done))));clear aJ b ae z C D E F hQ al a3 an h;obtain⟨⟨z,C⟩,⟨D,E⟩,F⟩:=T.facts;obtain⟨ap,ar⟩:=ag (T.set (i:=0) (u:=.slice (some ⟨A,0,none⟩) (d.length+1) N) rfl) (ao.set (i:=0) (u:=.slice (some ⟨A,0,none⟩) (d.length+1) N));go_wp2_with fail;refine(kO c _ (em c.ts S).2 b0 ⟨#[44]⟩ (by exact ap.rx)).mono ?_;rintro e hR ⟨eq,rfl,aL,H⟩;obtain⟨b1,cV,hS⟩:=aC (ap.step aL H) (ar.step H) aL;have gc:Hid (gG b0 eq):=H.more;clear aL H z C D E F T ao ap ar;go_wp2;go_roundg gk
    case measure=>simp
    case rel=>
     refine⟨_,r++[⟨cc,cd,ce,.slice bg a' c1,.slice bk aI c2,cf,cg⟩],d++[(em c.ts S).1],b8 c.ts (em c.ts S).2 [⟨#[44]⟩],eq,az c.ts (em c.ts S).2 [⟨#[44]⟩],rfl,⟨?_,b1,by rw[Jk,yE];exact U cV,by rw[Jk];have:=g.cnt;simp;omega,fun e=>?_⟩⟩
     ·refine g.ls.round G ?_ ?_ (iH Z S bF) b1.gx hS
      ·rw[U G];exact oF
      ·rw[U G];exact uO ba
     ·obtain⟨O,-,P⟩:=oE (st:=j) (by rw[U G];exact uN) (iH Z S bF) e;exact di.snoc (R:=fun(s:RI) (i:bH)=>rF eq.en s.call s.n s.v1 s.v2 s.asx i) (a:=⟨cc,cd,ce,.slice bg a' c1,.slice bk aI c2,cf,cg⟩) ((eo O).ext gc) ((g.ok P).ext (ci.trans gc))
  |false=>
   have o:=hrel.own.row;obtain⟨K,L,ac⟩:=a8 o;subst ac;have aj:=hrel.ls.done;have hT:Hid (t.2.er=none->qo x'.en r t.1):=by unfold Hid;rw[aj];exact hrel.ok
   have gf:=ab hrel.own;have au:Hid (SB c w x wr t.2 x' (.slice K d.length L) (.slice none 0 0) (.slice none 0 0) (.slice none 0 0)):=by unfold Hid;rw[aj];exact hrel.sb
   have hV:t.2.dp=0:=by rw[aj];exact hrel.ls.dp
   clear o aj hrel g;generalize d.length=B at*;have hW:=RF.nx au.rx;have gg:=ab (aM Z hW [⟨#[102,114,111,109]⟩]);go_wp2_with fail;refine(eJ c _ t.2 x' ⟨#[102,114,111,109]⟩ (by exact au.rx)).mono ?_;rintro e hX ⟨gi,rfl,f,b⟩;obtain⟨bv,hY⟩:=ag (au.step f b) (gf.step b);have hZ:Hid ((aH c.ts t.2 [⟨#[102,114,111,109]⟩]).er=none->qo gi.en r t.1):=fun e=>(hT (gg.er e)).ext b.more;have h0:(aH c.ts t.2 [⟨#[102,114,111,109]⟩]).dp=0:=gg.dp.trans hV;clear f b au gf;generalize gl:aH c.ts t.2 [⟨#[102,114,111,109]⟩]=cW at*;have h1:=ab gl;clear gl
   obtain⟨m,gm⟩: ∃b7,Hid (b7=dE c.ts (dH c.ts) 3 cW):=⟨_,rfl⟩
   have er:=ab (kQ.first (dH c.ts) (many c.ts 3) ⟨#[44]⟩ bv.rx bv.gx h0 (jW (by decide)));rw[show jC c.ts (dH c.ts) (many c.ts 3) ⟨#[44]⟩ c.ts.length [(dH c.ts cW).1] (dH c.ts cW).2=m by rw[U gm];unfold dE;rw[kP]]at er
   have gn:Hid (L2 c w x m c.ts.length hX (.slice K B L) B r t.1 (.slice none 0 0) (.slice none 0 0) [] [] [] cW gi true):=⟨U er,bv,hY,cS.nil _ _ _ _ _ _,cS.nil _ _ _ _ _ _,(fun av e=>by cases e),by simp,hZ,fun _=>⟨trivial,trivial⟩⟩
   clear er bv;go_wp2_with fail
   go_loopg [4] c.ts.length (fun b9 b' wr=> ∃gq gr I J d j x' X,b'=.bool X/\L2 c w x m b9 wr (.slice K B L) B r t.1 gq gr I J d j x' X)
   case atStart=>exact⟨_,_,_,_,_,_,_,_,rfl,gn⟩
   case round=>
    obtain⟨gq,gr,I,J,d,j,aN,X,rfl,hrel⟩:=hrel;have g:=ab hrel;clear gn
    cases X with
    |true=>
     obtain⟨gk,rfl⟩:=hrel.ls.pos;have ga:d.length<=1000:=wO hrel.cnt ea;have o:=hrel.ot.row;obtain⟨aR,aT,ac⟩:=a8 o;subst ac;have cj:=hrel.on.row;obtain⟨ax,ay,ac⟩:=a8 cj;subst ac;obtain⟨⟨z,C⟩,⟨D,E⟩,F⟩:=hrel.sb.facts;have ba:=RF.nx hrel.ls.rx;have bS:=hrel.ls.dp;have gs:=ab hrel.ap;clear hrel o cj
     obtain⟨S,G⟩: ∃S,Hid (S=many c.ts 3 d.length j):=⟨_,rfl⟩
     have gb:S.dp=0:=by rw[U G,oF];exact bS
     have bF:S.nx<c.ts.length:=by rw[U G];exact(eh ba 3 d.length).lt
     have h2:=ab (dx Z bF (k:=2) (by decide))
     go_upto_if 38 with(fail)
     go_cut [] (fun M=> ∃l,SB c w x M S l (.slice K B L) (.slice aR d.length aT) (.slice ax d.length ay) (.slice none 0 0)/\cS c w 100 3 M l (.slice aR d.length aT) d.length (fj I)/\cS c w 100 3 M l (.slice ax d.length ay) d.length (fj J)/\cS c w 228 7 M l (.slice K B L) B (fX r)/\gG aN l)
     case first=>
      by_cases a2:d.length=3
      ·have en:((d.length:Int)==3)=true:=by rw[a2];rfl
       have bG:Hid (S=bM c.ts j cB):=by unfold Hid;rw[U G];unfold many;rw[Jo a2]
       go_wp2_with fail;refine(yB c _ j aN (by exact g.sb.rx)).mono ?_;rintro e p ⟨l,rfl,f,b⟩;have bX:Hid (gG aN l):=b.more;obtain⟨Q,ak,cZ,c0⟩:=aP (g.sb.step f b) (g.ot.step b) (g.on.step b) (g.oi.step b);clear f b;go_wp2_with fail;go_meet
       case rel=>rw[U bG];exact⟨l,Q,ak,cZ,c0,bX⟩
      ·have en:((d.length:Int)==3)=false:=by simp only[Kb,ne_eq];omega
       have bG:Hid (S=j):=by unfold Hid;rw[U G];exact jW a2
       go_wp2_with fail;go_meet
       case rel=>rw[U bG];exact⟨aN,g.sb,g.ot,g.on,g.oi,gG.refl _⟩
     case rest=>
      obtain⟨l,bt,gt,gw,gx,bu⟩:=hcut;obtain⟨c0,Q,ak,cZ,cb⟩:=dD gx bt gt gw bu;clear bt gt gw gx bu z C D E F;go_wp2_with fail;refine(qP c _ S l 2 (by exact Q.rx) (Or.inl rfl)).mono ?_;rintro e ad ⟨bx,bz,b0,rfl,f,b,ch⟩;obtain⟨al,a3,gy,gJ,eo⟩:=dD ((Q.step f b).keep ((Jj _ _).alloc (Ji _) (.cells #[.int .i64 bx,.int .i64 bz,.string (bP c.ts S 2).text] 100))) ((ak.step b).keep ((Jj _ _).alloc (Ji _) (.cells #[.int .i64 bx,.int .i64 bz,.string (bP c.ts S 2).text] 100))) ((cZ.step b).keep ((Jj _ _).alloc (Ji _) (.cells #[.int .i64 bx,.int .i64 bz,.string (bP c.ts S 2).text] 100))) ((c0.step b).keep ((Jj _ _).alloc (Ji _) (.cells #[.int .i64 bx,.int .i64 bz,.string (bP c.ts S 2).text] 100))) ch;have ci:Hid (gG aN b0):=cb.trans b.more;have h3:=ab (f.off (Ji ad.heap.size));have j5:=(Q.step f b).facts.2.2;clear f b ch Q ak cZ c0;generalize gQ:(bP c.ts S 2).text=c6 at*;have h4:=ab gQ;clear gQ;go_wp2_with fail;refine(qP c _ (cx c.ts S 2) b0 2 (by exact al.rx) (Or.inl rfl)).mono ?_;rintro e bb ⟨cl,cp,gW,rfl,f,b,g0⟩;obtain⟨aU,bc,es,h5,h6⟩:=dD (al.step f b) (a3.step b) (gy.step b) (gJ.step b) g0;have h7:Hid (gG aN gW):=ci.trans b.more;have g1:=ab ((b.block (k:=ad.heap.size) (by simp) h3).trans (af rfl));clear f b g0 al a3 gy gJ;obtain⟨j6,f6⟩:=blk g1;have j7:=aa g1;generalize g2:(bP c.ts (cx c.ts S 2) 2).text=cq at*;have h8:=ab g2;clear g2;have o:=bc.row;have an:=ab o;clear o;obtain⟨⟨z,C⟩,⟨D,E⟩,F⟩:=aU.facts;have h:Hid (Below bb.heap.size bb ((bb.alloc (.cells #[.int .i64 cl,.int .i64 cp,.string cq] 100)).alloc (.cells #[.int .i64 bx,.int .i64 bz,.string c6] 100))):=((Jj _ _).alloc (Ji _) _).alloc (by simp) _;go_wp2_with (at_builtin;refine JT _ rfl _ _ 101 rfl (w.heap.size+2) 100 fr (.agg #[.int .i64 0,.int .i64 0,.string ⟨#[]⟩]) 3 32 underlying101 fs ft fv fw rfl (by decide) _ _ _ rfl ((an.alloc _).alloc _) ⟨bb.heap.size+1,0,none⟩ 1 1 [.int .i64 bx,.int .i64 bz,.string c6] rfl rfl ?c1 ?c2 (by decide) ?c3 ?c4 ?c5 _ rfl ?_)
      case c1=>exact cQ (by first|rfl|simp)
      case c2=>exact yr _ _ _
      case c3=>unfold maxLen;omega
      case c4=>omega
      case c5=>simp;omega
      intro A N a4 aJ b ae _;obtain⟨T,ao,g3,h9,g4⟩:=dD ((aU.keep h).grown (bc.keep h) b) ((bc.keep h).grown (aU.keep h).rx aJ (ae.imp id (fun e=>by rw[e];first|exact Ji _|(simp;done)))) ((es.keep h).other b gs) ((h5.keep h).sep (bc.keep h) (by decide) b) ((b.block bb.heap.size (by simp;omega) (fun a5=>by have:=(an.lt _ a5.symm).2;omega)).trans (ai (af rfl)))
      have g6:Hid (∀av,(Value.slice (some ⟨A,0,none⟩) (d.length+1) N).ownBlock=some av->(Value.slice ax d.length ay).ownBlock≠some av):=fun av e a5=>by
       have aA:A=av:=by simpa [Value.ownBlock]using e
       subst aA;rcases ae with q|q
       ·exact gs A q a5
       ·have et:=es.row;have eg:=(et.lt A a5).2;have c7:=h.size;omega
      clear aJ b ae z C D E F aU bc es an h;obtain⟨⟨z,C⟩,⟨D,E⟩,F⟩:=T.facts;obtain⟨j8,f7⟩:=blk g4;have j9:=aa g4;obtain⟨ap,ar,cr,h'⟩:=aP (T.set (i:=1) (u:=.slice (some ⟨A,0,none⟩) (d.length+1) N) rfl) (ao.set (i:=1) (u:=.slice (some ⟨A,0,none⟩) (d.length+1) N)) (g3.set (i:=1) (u:=.slice (some ⟨A,0,none⟩) (d.length+1) N)) (h9.set (i:=1) (u:=.slice (some ⟨A,0,none⟩) (d.length+1) N));have o:=cr.row;have an:=ab o;clear o;have j':bb.heap.size≠w.heap.size+1:=by omega
      have h:Hid (Below (a4.setCell ⟨w.heap.size+1,1,none⟩ (.slice (some ⟨A,0,none⟩) (d.length+1) N)).heap.size (a4.setCell ⟨w.heap.size+1,1,none⟩ (.slice (some ⟨A,0,none⟩) (d.length+1) N)) ((a4.setCell ⟨w.heap.size+1,1,none⟩ (.slice (some ⟨A,0,none⟩) (d.length+1) N)).alloc (.cells #[.int .i64 cl,.int .i64 cp,.string cq] 100))):=(Jj _ _).alloc (Ji _) _;go_wp2_with (at_builtin;refine JT _ rfl _ _ 101 rfl (w.heap.size+2) 100 fr (.agg #[.int .i64 0,.int .i64 0,.string ⟨#[]⟩]) 3 32 underlying101 fs ft fv fw rfl (by decide) _ _ _ rfl (an.alloc _) ⟨a4.heap.size,0,none⟩ 1 1 [.int .i64 cl,.int .i64 cp,.string cq] rfl rfl ?c1 ?c2 (by decide) ?c3 ?c4 ?c5 _ rfl ?_)
      case c1=>exact cQ (by first|rfl|simp)
      case c2=>exact yr _ _ _
      case c3=>unfold maxLen;omega
      case c4=>omega
      case c5=>simp;omega
      intro be cs ka aJ b ae _;obtain⟨au,g7,ic,ct⟩:=aP ((ap.keep h).grown (cr.keep h) b) ((cr.keep h).grown (ap.keep h).rx aJ (ae.imp id (fun e=>by rw[e];first|exact Ji _|(simp;done)))) ((h'.keep h).sep (cr.keep h) (by decide) b) ((ar.keep h).other b (fun av e a5=>(U g6) av a5 e))
      have ih:Hid (∀av,(Value.slice (some ⟨A,0,none⟩) (d.length+1) N).ownBlock=some av->(Value.slice (some ⟨be,0,none⟩) (d.length+1) cs).ownBlock≠some av):=fun av e a5=>by
       have aA:be=av:=by simpa [Value.ownBlock]using a5
       subst aA;rcases ae with q|q
       ·exact g6 be e q
       ·have et:=ar.row;have eg:be<a4.heap.size:=by simpa using(et.lt be e).2
        have c7:a4.heap.size<=a4.heap.size+1:=KN _;omega
      clear aJ b ae z C D E F T ao g3 ap ar cr an h;obtain⟨⟨z,C⟩,⟨D,E⟩,F⟩:=au.facts;obtain⟨bv,g8,ik,g9⟩:=aP (au.set (i:=2) (u:=.slice (some ⟨be,0,none⟩) (d.length+1) cs) rfl) (ct.set (i:=2) (u:=.slice (some ⟨be,0,none⟩) (d.length+1) cs)) (ic.set (i:=2) (u:=.slice (some ⟨be,0,none⟩) (d.length+1) cs)) (g7.set (i:=2) (u:=.slice (some ⟨be,0,none⟩) (d.length+1) cs));go_wp2_with fail;refine(kO c _ (cx c.ts (cx c.ts S 2) 2) gW ⟨#[44]⟩ (by exact bv.rx)).mono ?_;rintro e il ⟨b2,rfl,aL,H⟩;obtain⟨ip,cu,ev,iq,ex⟩:=dD (ik.step H) (bv.step aL H) (g8.step H) (g9.step H) aL;have b3:Hid (gG aN b2):=h7.trans H.more;clear aL H z C D E F au ct g7 bv g8 g9;go_wp2;go_roundg gk
      case measure=>simp
      case rel=>
       refine⟨_,_,I++[⟨bx,bz,c6⟩],J++[⟨cl,cp,cq⟩],d++[(dH c.ts S).1],b8 c.ts (dH c.ts S).2 [⟨#[44]⟩],b2,az c.ts (dH c.ts S).2 [⟨#[44]⟩],rfl,⟨?_,cu,ip,by rw[Jk,qm];exact U ev,by rw[Jk,qm];exact U iq,ih,by rw[Jk];have:=g.cnt;simp;omega,fun e=>?_,fun e=>?_⟩⟩
       ·refine g.ls.round G ?_ ?_ (iV Z S bF) cu.gx ex
        ·rw[U G];exact oF
        ·rw[U G];exact uO ba
       ·obtain⟨-,-,P⟩:=oE (st:=j) (by rw[U G];exact uN) (iV Z S bF) e;exact(g.it P).ext b3
       ·obtain⟨O,-,P⟩:=oE (st:=j) (by rw[U G];exact uN) (iV Z S bF) e;have aA:(cx c.ts S 2).er=none:=(dx Z h2.lt (k:=2) (by decide)).er O;exact⟨di.snoc (R:=fun(s:RT) (V:Tk×Tk)=>me s V.1) (a:=⟨bx,bz,c6⟩) ⟨(U eo) aA,h4.symm⟩ (g.ok P).1,di.snoc (R:=fun(s:RT) (V:Tk×Tk)=>me s V.2) (a:=⟨cl,cp,cq⟩) ⟨(U h6) O,h8.symm⟩ (g.ok P).2⟩
    |false=>
     have o:=hrel.ot.row;obtain⟨aR,aT,ac⟩:=a8 o;subst ac;have cj:=hrel.on.row;obtain⟨ax,ay,ac⟩:=a8 cj;subst ac;have aj:=hrel.ls.done
     have ir:Hid (m.2.er=none->qo aN.en r t.1/\di (fun s (V:Tk×Tk)=>me s V.1) I m.1/\di (fun s (V:Tk×Tk)=>me s V.2) J m.1):=by unfold Hid;rw[aj];exact fun e=>⟨hrel.it e,hrel.ok e⟩
     have g':Hid (R3 c w wr aN (.slice K B L) B r (.slice aR d.length aT) (.slice ax d.length ay) d.length I J):=⟨hrel.oi,hrel.ot,hrel.on⟩
     have c8:Hid (SB c w x wr m.2 aN (.slice K B L) (.slice aR d.length aT) (.slice ax d.length ay) (.slice none 0 0)):=by unfold Hid;rw[aj];exact hrel.sb
     have ha:m.2.dp=0:=by rw[aj];exact hrel.ls.dp
     clear o cj aj hrel g;generalize d.length=W at*;have kb:=RF.nx c8.rx;go_wp2_with fail;refine(kO c _ m.2 aN ⟨#[119,104,101,114,101]⟩ (by exact c8.rx)).mono ?_;rintro e it ⟨hb,rfl,f,b⟩;obtain⟨c9,hc⟩:=ag (c8.step f b) (g'.step b)
     have hd:Hid ((b8 c.ts m.2 [⟨#[119,104,101,114,101]⟩]).er=none->qo hb.en r t.1/\di (fun s (V:Tk×Tk)=>me s V.1) I m.1/\di (fun s (V:Tk×Tk)=>me s V.2) J m.1):=fun e=>by
      have aV:=(U ir) (AS e)
      exact⟨aV.1.ext b.more,aV.2⟩
     clear f b c8 g'
     obtain⟨bJ,he⟩: ∃b7,Hid (b7=ey c.ts m.2):=⟨_,rfl⟩
     have hf:Hid (L3 c w x bJ c.ts.length it (.slice K B L) B r t.1 (.slice aR W aT) (.slice ax W ay) W I J m.1 (.slice none 0 0) [] [] (b8 c.ts m.2 [⟨#[119,104,101,114,101]⟩]) hb (az c.ts m.2 [⟨#[119,104,101,114,101]⟩])):=by
      refine⟨?_,c9,hc,cS.nil _ _ _ _ _ _,by simp,hd,fun _=>trivial⟩;have cv:=U he;unfold ey at cv
      cases a0:az c.ts m.2 [⟨#[119,104,101,114,101]⟩]with
      |true=>
       have O:b8 c.ts m.2 [⟨#[119,104,101,114,101]⟩]=aD m.2:=by unfold b8;rw[a0];rfl
       rw[a0,Jo rfl,vL]at cv;have a1:=U c9;rw[O]at a1⊢;rw[cv];exact kQ.first (eE c.ts) (fun _ iv=>iv) ⟨#[97,110,100]⟩ a1.rx a1.gx ha rfl
      |false=>
       have O:b8 c.ts m.2 [⟨#[119,104,101,114,101]⟩]=m.2:=by unfold b8;rw[a0];rfl
       rw[a0]at cv;have a1:=U c9;rw[O]at a1⊢;exact⟨a1.rx,a1.gx,by rw[cv];rfl,(fun e=>by cases e),ha⟩
     clear c9 hc hd;generalize hg:b8 c.ts m.2 [⟨#[119,104,101,114,101]⟩]=kc at*;have kd:=ab hg;clear hg;generalize hh:az c.ts m.2 [⟨#[119,104,101,114,101]⟩]=ke at*;have kf:=ab hh;clear hh;go_wp2_with fail
     go_loopg [4] c.ts.length (fun b9 b' wr=> ∃hi rs d j x' X,b'=.bool X/\L3 c w x bJ b9 wr (.slice K B L) B r t.1 (.slice aR W aT) (.slice ax W ay) W I J m.1 hi rs d j x' X)
     case atStart=>exact⟨_,_,_,_,_,_,rfl,hf⟩
     case round=>
      obtain⟨hi,rs,d,j,bA,X,rfl,hrel⟩:=hrel;have g:=ab hrel;clear hf;have o:=hrel.own.row;obtain⟨c',dd,ac⟩:=a8 o;subst ac;clear o
      cases X with
      |false=>
       have aj:=hrel.ls.done
       have iw:Hid (bJ.2.er=none->(qo bA.en r t.1/\di (fun s (V:Tk×Tk)=>me s V.1) I m.1/\di (fun s (V:Tk×Tk)=>me s V.2) J m.1)/\di (vM bA.en) rs bJ.1):=by unfold Hid;rw[aj];exact fun e=>⟨hrel.it e,hrel.ok e⟩
       have ix:=ab hrel.r3;have hj:=ab hrel.own;have df:Hid (SB c w x wr bJ.2 bA (.slice K B L) (.slice aR W aT) (.slice ax W ay) (.slice c' d.length dd)):=by unfold Hid;rw[aj];exact hrel.sb
       clear aj hrel g;generalize d.length=iA at*;obtain⟨⟨z,C⟩,⟨D,E⟩,F⟩:=df.facts;have O:t=jf c.ts st:=by rw[U fz,<-U hP];rfl
       have aA:m=jK c.ts (jf c.ts st).2:=by rw[U gm,<-U h1,O];rfl
       have P:bJ=ey c.ts (jK c.ts (jf c.ts st).2).2:=by rw[U he,aA]
       have i0:Hid ((fJ c.ts st).2.er=none->qn bA.en r I J rs (fJ c.ts st).1):=fun e=>by
        have a5:bJ.2.er=none:=by rw[P];exact e
        have aV:=(U iw) a5;rw[O,aA,P]at aV;exact⟨aV.1.1,aV.1.2.1,aV.1.2.2,aV.2⟩
       have ci:=ab P;clear O aA P;go_wp2;have P:=U ci;refine Jr (v:=.agg #[.slice K B L,.slice aR W aT,.slice ax W ay,.slice c' iA dd,.bool true]) (by simp[results,results69,go_sem,z]) rfl ⟨_,_,_,_,_,_,_,_,_,_,_,bA,r,I,J,rs,rfl,?_,?_,?_,?_,?_⟩
       ·show RX c _ (ey c.ts (jK c.ts (jf c.ts st).2).2).2 bA
        rw[<-P];exact df.rx.kpb (((((Kp.refl w.heap.size _).setCell _ _).setCell _ _).setCell _ _).setCell _ _|>.setCell _ _) (df.off _ (Ji _) (by omega))
       ·exact df.gx.kpNew (((((Kp.refl w.heap.size _).setCell _ _).setCell _ _).setCell _ _).setCell _ _|>.setCell _ _) (Ji _)
       ·exact ix.kpw (((((Kp.refl w.heap.size _).setCell _ _).setCell _ _).setCell _ _).setCell _ _|>.setCell _ _)
       ·exact⟨bf hj.row (((((Kp.refl w.heap.size _).setCell _ _).setCell _ _).setCell _ _).setCell _ _|>.setCell _ _) (by omega),hj.off⟩
       ·exact i0
      |true=>
       obtain⟨gk,rfl⟩:=hrel.ls.pos;have ga:d.length<=1000:=wO hrel.cnt ea;have ba:=RF.nx hrel.ls.rx;have bS:=hrel.ls.dp;clear hrel;have ez:=ab (dn Z j ba)
       obtain⟨y,b4⟩: ∃y,Hid (y=bj c.ts j):=⟨_,rfl⟩
       rw[<-U b4]at ez;have eN:=ab (oD c eb ed wr j bA g.ls.rx bS);rw[<-U b4]at eN;go_wp2_with fail;refine eN.mono ?_;rintro e p ⟨dk,l,rfl,f,b,bu⟩;obtain⟨Q,ak,cb,hk⟩:=aP (g.sb.step f b) (g.own.step b) bu (g.r3.step b);have bX:Hid (gG bA l):=b.more;obtain⟨⟨eR,eT,eX,cz,e0⟩,e1,e2,⟨t0,t1,t2⟩,e3,e4,e5⟩:=RF.facts f;have kg:=RF.inx f;have cF:=ab f;clear f b bu eN;generalize hl:ah c.ts l.I=n at*;have e6:=ab hl;clear hl;generalize i1:((dh n:Nat):Int)=a9 at*;clear i1;generalize hm:jq y.2.er=hn at*;have e7:=ab hm;clear hm
       go_upto_region 23 with(fail)
       go_cut [9] (fun i2 M=>i2=.pointer (some ⟨p.heap.size,0,none⟩)/\M=((p.alloc (.cells #[.int .i64 a9,.int .i64 n.place,.string n.text] 100)).drew))
       case first=>
        go_region
        all_goals
         go_wp2_with fail;go_meet
         case rel=>exact⟨rfl,rfl⟩
       case rest=>
        obtain⟨rfl,rfl⟩:=hcut;obtain⟨al,a3,ho⟩:=aC (Q.keep (show Below p.heap.size p ((p.alloc (.cells #[.int .i64 a9,.int .i64 n.place,.string n.text] 100)).drew)from((Jj _ _).alloc (Ji _) _).drew)) (ak.keep (show Below p.heap.size p ((p.alloc (.cells #[.int .i64 a9,.int .i64 n.place,.string n.text] 100)).drew)from((Jj _ _).alloc (Ji _) _).drew)) (hk.keep (show Below p.heap.size p ((p.alloc (.cells #[.int .i64 a9,.int .i64 n.place,.string n.text] 100)).drew)from((Jj _ _).alloc (Ji _) _).drew));have dp:Hid (((p.alloc (.cells #[.int .i64 a9,.int .i64 n.place,.string n.text] 100)).drew).heap[p.heap.size]? =some (.cells #[.int .i64 a9,.int .i64 n.place,.string n.text] 100 (0,0))):=af rfl;have dq:Hid (iR c l p.heap.size):=cF.off (Ji _);have kk:p.heap.size<((p.alloc (.cells #[.int .i64 a9,.int .i64 n.place,.string n.text] 100)).drew).heap.size:=aa dp;have hp:=al.rx;clear eR eT eX cz e0 e1 e2 t0 t1 t2 e3 e4 e5 Q ak hk;generalize((p.alloc (.cells #[.int .i64 a9,.int .i64 n.place,.string n.text] 100)).drew)=ad at*;obtain⟨e8,f9⟩:=blk dp;obtain⟨⟨eR,eT,eX,cz,e0⟩,e1,e2,⟨t0,t1,t2⟩,e3,e4,e5⟩:=RF.facts hp;rw[U e7]at cz;clear hp eR eT eX e0 e1 e2 t0 t1 t2 e4 e5;go_wp2_with fail;refine(fE _ _ _ eH (by exact DB (by first|rfl|simp)) (by decide)).mono ?_;rintro e bb ⟨rfl,rfl⟩;obtain⟨aU,bc,e9⟩:=aC (al.keep ((Jj _ _).alloc (Ji _) (.cells #[.string ⟨#[61]⟩,.string ⟨#[60,62]⟩,.string ⟨#[60]⟩,.string ⟨#[60,61]⟩,.string ⟨#[62]⟩,.string ⟨#[62,61]⟩] 9))) (a3.keep ((Jj _ _).alloc (Ji _) (.cells #[.string ⟨#[61]⟩,.string ⟨#[60,62]⟩,.string ⟨#[60]⟩,.string ⟨#[60,61]⟩,.string ⟨#[62]⟩,.string ⟨#[62,61]⟩] 9))) (ho.keep ((Jj _ _).alloc (Ji _) (.cells #[.string ⟨#[61]⟩,.string ⟨#[60,62]⟩,.string ⟨#[60]⟩,.string ⟨#[60,61]⟩,.string ⟨#[62]⟩,.string ⟨#[62,61]⟩] 9)));have bL:Hid ((ad.alloc (.cells #[.string ⟨#[61]⟩,.string ⟨#[60,62]⟩,.string ⟨#[60]⟩,.string ⟨#[60,61]⟩,.string ⟨#[62]⟩,.string ⟨#[62,61]⟩] 9)).heap[p.heap.size]? =some (.cells #[.int .i64 a9,.int .i64 n.place,.string n.text] 100 (0,0))):=ai dp;have i3:(ad.alloc (.cells #[.string ⟨#[61]⟩,.string ⟨#[60,62]⟩,.string ⟨#[60]⟩,.string ⟨#[60,61]⟩,.string ⟨#[62]⟩,.string ⟨#[62,61]⟩] 9)).cell? ⟨c.rb,3,none⟩=some (.int .i64 hn):=by rw[JS _ _ ⟨c.rb,3,none⟩ e3];exact cz
        have i4:c.rb<(ad.alloc (.cells #[.string ⟨#[61]⟩,.string ⟨#[60,62]⟩,.string ⟨#[60]⟩,.string ⟨#[60,61]⟩,.string ⟨#[62]⟩,.string ⟨#[62,61]⟩] 9)).heap.size:=by simp;omega
        generalize hq:Lib.containsS eH n.text=i5 at*;have hr:=ab hq;clear hq e8 f9 cz al a3 ho dp;generalize ad.alloc (.cells #[.string ⟨#[61]⟩,.string ⟨#[60,62]⟩,.string ⟨#[60]⟩,.string ⟨#[60,61]⟩,.string ⟨#[62]⟩,.string ⟨#[62,61]⟩] 9)=bb at*
        go_upto_region 25 with(fail)
        go_cut [89] (fun i6 M=>M=bb/\i6=.bool (az c.ts y.2 eH))
        case first=>
         cases i5 with
         |false=>
          have cI:Hid (az c.ts y.2 eH=false):=AW cF (by rw[U e6];exact Or.inl hr);go_wp2_with fail;go_meet
          case rel=>exact⟨rfl,by rw[U cI]⟩
         |true=>
          cases hs:(hn==0)with
          |false=>
           have cI:Hid (az c.ts y.2 eH=false):=AW cF (Or.inr (by rw[U e7];exact hs));go_wp2_with fail;go_meet
           case rel=>exact⟨rfl,by rw[U cI]⟩
          |true=>
           have cI:Hid (az c.ts y.2 eH=true):=GS cF hJ (by rw[U e6];exact hr) (by rw[U e7];exact hs);go_wp2_with fail;go_meet
           case rel=>exact⟨rfl,by rw[U cI]⟩
        case rest=>
         obtain⟨rfl,rfl⟩:=hcut
         go_upto_if 89 with(fail)
         go_cut [10] (fun _ M=> ∃Y,SB c w x M (aH c.ts y.2 eH) Y (.slice K B L) (.slice aR W aT) (.slice ax W ay) (.slice c' d.length dd)/\cS c w 273 3 M Y (.slice c' d.length dd) d.length (gF rs)/\R3 c w M Y (.slice K B L) B r (.slice aR W aT) (.slice ax W ay) W I J/\gG l Y/\M.heap[p.heap.size]? =some (.cells #[.int .i64 a9,.int .i64 n.place,.string n.text] 100 (0,0))/\iR c Y p.heap.size)
         case first=>
          cases a0:az c.ts y.2 eH with
          |true=>
           have e':Hid (aH c.ts y.2 eH=aD y.2):=by unfold Hid aH;rw[a0];rfl
           have i8:y.2.er=none:=RF.okHit aU.rx a0;have i9:=ab (aW a0);clear a0;go_wp2_with fail;refine(AR c _ y.2 l (by exact aU.rx) i8 i9).mono ?_;rintro e a4 ⟨Y,rfl,f,b⟩;have b5:=ab (e9.step b);have fa:Hid (gG l Y):=b.more;obtain⟨T,ao,bN,b6⟩:=aP (aU.step f b) (bc.step b) ((b.block (aa bL) dq).trans bL) (b.off (aa bL) dq);clear f b;go_wp2_with fail;go_meet
           case rel=>rw[U e'];exact⟨Y,T,ao,b5,fa,bN,b6⟩
          |false=>
           have e':Hid (aH c.ts y.2 eH=bM c.ts y.2 bE):=by unfold Hid aH;rw[a0];rfl
           clear a0;go_wp2_with fail;refine(GO c _ y.2 l (by exact aU.rx)).mono ?_;rintro e a4 ⟨Y,rfl,f,b⟩;have b5:=ab (e9.step b);have fa:Hid (gG l Y):=b.more;obtain⟨T,ao,bN,b6⟩:=aP (aU.step f b) (bc.step b) ((b.block (aa bL) dq).trans bL) (b.off (aa bL) dq);clear f b;go_wp2_with fail;go_meet
           case rel=>rw[U e'];exact⟨Y,T,ao,b5,fa,bN,b6⟩
         case rest=>
          obtain⟨Y,bt,ca,ht,hu,hv,hw⟩:=hcut;obtain⟨b5,T,ao,fb,bN,b6⟩:=io ht bt ca hu hv hw;clear bt ca ht hu hv hw aU bc e9 bL i3 i4;have fc:=ab (aM Z ez.lt eH);have jh:(aH c.ts y.2 eH).dp=0:=(fc.dp.trans ez.dp).trans bS;go_wp2_with fail;refine(oD c eb ed _ _ Y (by exact T.rx) jh).mono ?_;rintro e ds ⟨dw,fe,rfl,f,b,hx⟩;obtain⟨ap,ar,fg,jj,jp⟩:=dD (T.step f b) (ao.step b) ((b.block (aa bN) b6).trans bN) hx (b5.step b);have fk:Hid (gG Y fe):=b.more;clear f b hx T ao b5;obtain⟨e8,f9⟩:=blk fg;have jx:=aa fg;obtain⟨⟨z,C⟩,⟨D,E⟩,F⟩:=ap.facts;have o:=ar.row;have an:=ab o;clear o;have h:Hid (Below ds.heap.size ds (ds.alloc (.cells #[.string n.text,.int .i64 dk,.int .i64 dw] 273))):=(Jj _ _).alloc (Ji _) _;go_wp2_with (at_builtin;refine JT _ rfl _ _ 103 rfl (w.heap.size+2) 273 hE (.agg #[.string ⟨#[]⟩,.int .i64 0,.int .i64 0]) 3 32 underlying103 hF hG hH hI rfl (by decide) _ _ _ rfl (an.alloc _) ⟨ds.heap.size,0,none⟩ 1 1 [.string n.text,.int .i64 dk,.int .i64 dw] rfl rfl ?c1 ?c2 (by decide) ?c3 ?c4 ?c5 _ rfl ?_)
          case c1=>exact cQ (by first|rfl|simp)
          case c2=>exact IN _ _ _
          case c3=>unfold maxLen;omega
          case c4=>omega
          case c5=>simp;omega
          intro A N hR aJ b ae _;obtain⟨b1,jY,cV⟩:=aC ((ap.keep h).grown (ar.keep h) b) ((jp.keep h).sep (ar.keep h) b) ((ar.keep h).grown (ap.keep h).rx aJ (ae.imp id (fun e=>by rw[e];first|exact Ji _|(simp;done))));clear aJ b ae z C D E F e8 f9 jx ap ar an h bN fg b6;obtain⟨⟨z,C⟩,⟨D,E⟩,F⟩:=b1.facts;obtain⟨au,j0,ct⟩:=aC (b1.set (i:=3) (u:=.slice (some ⟨A,0,none⟩) (d.length+1) N) rfl) (jY.set (i:=3) (u:=.slice (some ⟨A,0,none⟩) (d.length+1) N)) (cV.set (i:=3) (u:=.slice (some ⟨A,0,none⟩) (d.length+1) N));go_wp2_with fail;refine(kO c _ (bj c.ts (aH c.ts y.2 eH)).2 fe ⟨#[97,110,100]⟩ (by exact au.rx)).mono ?_;rintro e il ⟨b2,rfl,aL,H⟩;obtain⟨j1,cu,ev,ex⟩:=aP (j0.step H) (au.step aL H) (ct.step H) aL;have b3:Hid (gG fe b2):=H.more;clear aL H z C D E F b1 cV au ct;go_wp2;go_roundg gk
          case measure=>simp
          case rel=>
           have dT:(eE c.ts j).2=(bj c.ts (aH c.ts y.2 eH)).2:=by rw[U b4];rfl
           rw[<-dT];have fl:=fun e=>oE (sep:=⟨#[97,110,100]⟩) (Or.inl rfl) (jJ Z j ba) e;refine⟨_,rs++[⟨n.text,dk,dw⟩],d++[(eE c.ts j).1],b8 c.ts (eE c.ts j).2 [⟨#[97,110,100]⟩],b2,az c.ts (eE c.ts j).2 [⟨#[97,110,100]⟩],rfl,⟨?_,by rw[dT];exact U cu,j1,by rw[Jk,yF];exact U ev,by rw[Jk];have:=g.cnt;simp;omega,fun e=>?_,fun e=>?_⟩⟩
           ·exact g.ls.round (S:=j) rfl rfl (Ji _) (jJ Z j ba) cu.gx (by rw[dT];exact ex)
           ·have aV:=g.it (fl e).2.2;exact⟨aV.1.ext (((bX.trans fb).trans fk).trans b3),aV.2⟩
           ·have O:=(fl e).1;rw[dT]at O;have aA:=(dn Z _ fc.lt).er O;have P:=fc.er aA;have j2:=rT aA;have j3:l.I=y.2.nx:=RF.cor cF P
            have j4:n.text=(eE c.ts j).1.sg:=by
             show _=iu c.ts (bj c.ts j).2 eH
             unfold iu;rw[<-U b4,Jo j2,<-U e6,j3]
            refine di.snoc (R:=vM b2.en) (a:=⟨n.text,dk,dw⟩) ⟨j4,?_,?_⟩ (vM.ext (g.ok (fl e).2.2) (((bX.trans fb).trans fk).trans b3))
            ·have c7:=(cb P).ext ((fb.trans fk).trans b3);rw[U b4]at c7;exact c7
            ·have a2:=(jj O).ext b3;rw[U b4]at a2;exact a2
theorem oH{W:World}{b a:Nat}{T:TypeId}{c n:Nat}{v:Value}{xs:List Value}(d:W.ownsRow b T c v n xs)(e:a<=b):W.ownsRow a T c v n xs:=
 ⟨d.1,d.2.imp id (fun⟨g,cap,f,h,i,r⟩=>⟨g,cap,f,h,Jt e i,r⟩)⟩
theorem Af(l:List RI):(fX l).length=l.length*7:=by
 induction l with
 |nil=>rfl
 |cons b a c=>
  have d:fX (b::a)=AV b++fX a:=rfl;rw[d,Jk,c,Ju]
  show 7+a.length*7=_
  omega
theorem rG(l:List RT):(fj l).length=l.length*3:=by
 induction l with
 |nil=>rfl
 |cons b a c=>
  have d:fj (b::a)=pI b++fj a:=rfl;rw[d,Jk,c,Ju]
  show 3+a.length*3=_
  omega
theorem Ag(l:List RP):(gF l).length=l.length*3:=by
 induction l with
 |nil=>rfl
 |cons b a c=>
  have d:gF (b::a)=DA b++gF a:=rfl;rw[d,Jk,c,Ju]
  show 3+a.length*3=_
  omega
theorem dJ{W W':World}{b:Nat}{T:TypeId}{a n:Nat}{v:Value}{xs:List Value}(c:W.ownsRow b T a v n xs)(e:Below W.heap.size W W'):W'.ownsRow b T a v n xs:=
 ⟨c.1,c.2.imp id (fun⟨g,cap,f,h,i,d,r⟩=>⟨g,cap,f,h,i,(e.block g (aa d)).trans d,r⟩)⟩
structure PQ(W:World)(lo qb:Nat)(en:List RE)(ri:List RI)(rt rn:List RT)(rs:List RP)(vi vt vn vs ev:Value):Prop where
 name:W.cell? ⟨qb,2,none⟩=some (.string ⟨#[]⟩)
 c14:W.cell? ⟨qb,14,none⟩=some vi
 c15:W.cell? ⟨qb,15,none⟩=some vt
 c16:W.cell? ⟨qb,16,none⟩=some vn
 c17:W.cell? ⟨qb,17,none⟩=some vs
 c18:W.cell? ⟨qb,18,none⟩=some (.bool true)
 c21:W.cell? ⟨qb,21,none⟩=some ev
 lt:qb<W.heap.size
 ex:W.ownsRow lo 374 10 ev en.length (jU en)
 it:W.ownsRow lo 228 7 vi ri.length (fX ri)
 tb:W.ownsRow lo 100 3 vt rt.length (fj rt)
 nm:W.ownsRow lo 100 3 vn rn.length (fj rn)
 ts:W.ownsRow lo 273 3 vs rs.length (gF rs)
def tL(W:World)(lo f:Nat)(s:dP):Prop:= ∃a b c d e g h i j k,PQ W lo f a b c d e g h i j k/\qn a b c d e s
theorem PQ.keep{W W':World}{lo d:Nat}{e:List RE}{f:List RI}{g h:List RT}{rs:List RP}{j k l m n:Value}(a:PQ W lo d e f g h rs j k l m n)(b:Below W.heap.size W W'):PQ W' lo d e f g h rs j k l m n:=
 have c: ∀i v,W.cell? ⟨d,i,none⟩=some v->W'.cell? ⟨d,i,none⟩=some v:=fun i _ o=>(mz (b.block _ a.lt) i).trans o
 ⟨c _ _ a.name,c _ _ a.c14,c _ _ a.c15,c _ _ a.c16,c _ _ a.c17,c _ _ a.c18,c _ _ a.c21,Js a.lt b.size,dJ a.ex b,dJ a.it b,dJ a.tb b,dJ a.nm b,dJ a.ts b⟩
theorem tL.keep{W W':World}{lo a:Nat}{s:dP}(b:tL W lo a s)(c:Below W.heap.size W W'):tL W' lo a s:=by obtain⟨d,e,f,g,h,i,j,k,l,m,n,o⟩:=b;exact⟨d,e,f,g,h,i,j,k,l,m,n.keep c,o⟩
theorem PQ.kpn{W W':World}{lo e b:Nat}{g:List RE}{h:List RI}{j k:List RT}{rs:List RP}{l m n o p:Value}{cs:Array Value}(a:PQ W lo e g h j k rs l m n o p)(c:Kp b W W')(f:W.heap[b]? =some (.cells cs 27 (0,0)))(q:b≠e):PQ W' lo e g h j k rs l m n o p:=
 have d: ∀i v,W.cell? ⟨e,i,none⟩=some v->W'.cell? ⟨e,i,none⟩=some v:=fun i _ r=>(mz (c.block _ a.lt (Lm q)) i).trans r
 ⟨d _ _ a.name,d _ _ a.c14,d _ _ a.c15,d _ _ a.c16,d _ _ a.c17,d _ _ a.c18,d _ _ a.c21,Js a.lt c.size,iP a.ex c f (by decide),iP a.it c f (by decide),iP a.tb c f (by decide),iP a.nm c f (by decide),iP a.ts c f (by decide)⟩
theorem tL.kpn{W W':World}{lo a b:Nat}{s:dP}{cs:Array Value}(c:tL W lo a s)(d:Kp b W W')(e:W.heap[b]? =some (.cells cs 27 (0,0)))(f:b≠a):tL W' lo a s:=by obtain⟨g,h,i,j,k,l,m,n,o,p,q,r⟩:=c;exact⟨g,h,i,j,k,l,m,n,o,p,q.kpn d e f,r⟩
def gH(T:List Tb)(a:ByteArray):Int:=match dz T a with
 |some b=>(b:Int)
 |none=> -1
theorem yG{pre suf:List Tb}{a:ByteArray}(b: ∀t∈pre,(t.name.toList==a.toList)=false):dz (pre++suf) a=(dz suf a).map (· +pre.length):=by
 unfold dz
 induction pre with
 |nil=>simp
 |cons t f c=>
  rw[KS,L9,b t JK,c (fun d e=>b d (KQ _ e))];simp only[Km,Lj,Option.map_map]
  congr 1
theorem GU{pre suf:List Tb}{t:Tb}{a:ByteArray}(b: ∀t∈pre,(t.name.toList==a.toList)=false)(c:(t.name.toList==a.toList)=true):gH (pre++t::suf) a=(pre.length:Int):=by unfold gH;rw[yG b];unfold dz;rw[L9,c];simp
theorem Fu{pre:List Tb}{a:ByteArray}(b: ∀t∈pre,(t.name.toList==a.toList)=false):gH pre a= -1:=by unfold gH;have:=yG (suf:=[]) b;rw[JD]at this;rw[this];rfl
theorem nj(w:World)(p:Option Addr)(r:Value)(T:List Tb)(s:bp w r T)(R:T.length<=5)(a:ByteArray):
  Calls prog 130 #[.agg #[.pointer p,r],.string a] w fun e w'=>e=.returned (.int .i64 (gH T a))/\Below w.heap.size w w':=by
 have t:=s;obtain⟨j,k,rfl,S,V,-⟩:=s
 obtain⟨f,hz⟩: ∃f,f=w.alloc (.cells #[.pointer p,.slice j T.length k] 222):=⟨_,rfl⟩
 have l:Below w.heap.size w f:=by rw[hz];exact(Jj _ _).alloc (Ji _) _
 have m:f.heap[w.heap.size]? =some (.cells #[.pointer p,.slice j T.length k] 222 (0,0)):=by rw[hz];exact af rfl
 obtain⟨u,C⟩:=blk m;have W:f.cell? ⟨w.heap.size,1,none⟩=some (.slice j T.length k):=u 1;have X:=aa m;have v:=ab l;obtain⟨Y,Z,g,-,-,x⟩:=t.keep l;injection g with D E F;clear E;subst D F;have G:=ab x;clear x t l m u C;go_enter func130,ntmps130;go_wp2_with fail;rw[<-hz];clear hz
 go_loopg [5] T.length (fun H I J=> ∃b c,T=b++c/\(∀d∈b,(d.name.toList==a.toList)=false)/\H=c.length/\I=.int .i64 (b.length:Nat)/\J=f)
 case atStart=>exact⟨[],T,rfl,(fun d K=>by cases K),rfl,rfl,rfl⟩
 case round=>
  obtain⟨b,c,g,y,rfl,rfl,L⟩:=hrel;obtain rfl:=L.symm;have z:b.length+c.length=T.length:=by rw[g,Jk]
  obtain⟨i,n⟩:=ag g y;clear g y
  cases c with
  |nil=>
   have M:decide (b.length<T.length)=false:=by simp at z⊢;omega
   go_wp2;go_ret;refine⟨?_,v⟩;have e:gH T a= -1:=by rw[U i,JD];exact Fu n
   rw[e];rfl
  |cons d c=>
   rw[Ju]at z;have M:decide (b.length<T.length)=true:=by simp;omega
   obtain⟨ac,ad,rfl,ae,A⟩:=(U G) (by omega)
   obtain⟨aj,ak,-,al,-,-⟩:=A b.length d (by rw[U i];simp);have N:Hid (T=(b++[d])++c):=by unfold Hid;rw[U i];simp
   have an:(0:Int)<=(b.length:Int):=by omega
   have ao:(b.length:Int)<(T.length:Int):=by omega
   clear A
   cases B:(d.name.toList==a.toList)with
   |true=>
    have O:Hid (gH T a=(b.length:Int)):=by unfold Hid;rw[U i];exact GU n B
    go_wp2;go_ret;exact⟨by rw[U O];rfl,v⟩
   |false=>
    have P:Hid (∀o∈b++[d],(o.name.toList==a.toList)=false):=fun o Q=>by
     rcases JW.1 Q with q|q
     ·exact n o q
     ·rw[JN]at q;rw[q];exact B
    go_wp2;go_roundg c.length
    case measure=>simp
    case rel=>exact⟨b++[d],c,N,P,rfl,by rw[Jk];go_num,rfl⟩
def gX(k:Nat):Int:=if k=fS then 1 else if k=jZ then 2 else if k=fU then 3 else if k=bE then 4 else if k=dY then 5 else if k=eW then 6 else if k=iJ then 7 else if k=uA then 8 else if k=sU then 10 else 9
def oI:Option (Nat×Nat)->Value
 |none=>.agg #[.int .i64 0,.int .i64 0]
 |some (p,k)=>.agg #[.int .i64 (gX k),.int .i64 (p:Nat)]
theorem qQ(k:Nat):gX k≠0:=by
 unfold gX
 repeat(split;·decide)
 decide
theorem yH{d:Type}(f:d->List Value)(k:Nat)(c: ∀a,(f a).length=k): ∀(l:List d) (i:Nat) (a:d),l[i]? =some a-> ∀j,j<k->(l.flatMap f)[i*k+j]? =(f a)[j]?
 | [],i,a,b=>by simp at b
 |x::r,0,a,b=>fun j e=>by
  obtain rfl:x=a:=by simpa using b
  rw[LM,Jz (by rw[c];omega)]
  congr 1
  omega
 |x::r,i+1,a,b=>fun j e=>by
  rw[LM,Jw (by rw[c,Nat.succ_mul];omega),c];have:=yH f k c r i a (by simpa using b) j e;rw[<-this]
  congr 1
  rw[Nat.succ_mul];omega
theorem cK{b:Type}{W:World}{lo:Nat}{T:TypeId}{k:Nat}{v:Value}{l:List b}{f:b->List Value}(e: ∀a,(f a).length=k)(c:W.ownsRow lo T k v l.length (l.flatMap f)){i:Nat}{a:b}(d:l[i]? =some a): ∃g cap,v=.slice (some ⟨g,0,none⟩) l.length cap/\g<W.heap.size/\i<l.length/\ ∀j,j<k->W.cell? ⟨g,i*k+j,none⟩=(f a)[j]? :=by
 have h:=(Jy.1 d).1;rcases c.2 with⟨_,h0⟩|⟨g,cap,cur,rfl,h1,h2,h3,h4,h5,h6⟩
 ·omega
 ·refine⟨g,cap,rfl,aa h2,h,fun j m=>?_⟩;rw[c.cellAt (i*k+j) (by have:=LX k (show i+1<=l.length by omega);rw[Nat.succ_mul]at this;omega),yH f k e l i a d j m]
theorem dj(W:World)(x o:Nat)(u:Value){a b:Nat}(c:a≠x):(W.setCell ⟨x,o,none⟩ u).cell? ⟨a,b,none⟩=W.cell? ⟨a,b,none⟩:=by simp only[World.cell?,Jp _ _ _ _ (show a≠(⟨x,o,none⟩:Addr).block from c)]
abbrev si(vi vt vn vs:Value):Value:=.agg #[vi,vt,vn,vs,.bool true]
def yI(lo b:Nat)(c:Value)(T:List Tb)(h:List RE)(i:List RI)(j k:List RT)(rs:List RP)(d e f g l:Value)(n:Int)(m:Option (Nat×Nat)):Prop:= ∀a,PQ a lo b h i j k rs d e f g l->bp a c T->Calls prog 205 #[.agg #[.pointer (some ⟨b,0,none⟩),c],si d e f g,.int .i64 n] a fun o p=>o=.returned (oI m)/\Below a.heap.size a p
theorem DC(lo b:Nat)(c:Value)(T:List Tb)(d:List RE)(e:List RI)(f g:List RT)(rs:List RP)(hz i j k l:Value):yI lo b c T d e f g rs hz i j k l (-1) none:=by intro n a m;obtain⟨o,p,rfl,-⟩:=m;obtain⟨q,r,s,rfl⟩:=bO a.it;obtain⟨t,u,w,rfl⟩:=bO a.tb;obtain⟨x,y,z,rfl⟩:=bO a.nm;obtain⟨A,B,C,rfl⟩:=bO a.ts;clear a;go_enter func205,ntmps205;go_wp2;refine Jr (v:=.agg #[.int .i64 0,.int .i64 0]) (by simp[results,results205,go_sem]) rfl ⟨rfl,?_⟩;exact(((Jj _ _).alloc (Ji _) _).alloc (by simp) _).alloc (by simp;omega) _
theorem qt(lo e:Nat)(s:Value)(T:List Tb)(l:List RE)(t:List RI)(u w:List RT)(rs:List RP)(x y z A B:Value)(n:Nat)(r:RE)(hn:l[n]? =some r)(bG:(r.sg.toList== [46])=false)(C m:Option (Nat×Nat))(K:yI lo e s T l t u w rs x y z A B r.A C)(L:yI lo e s T l t u w rs x y z A B r.B m):yI lo e s T l t u w rs x y z A B (n:Int) (bQ C m):=by
 intro a d M;obtain⟨N,O,aT,aU⟩:=aP d M K L;obtain⟨P,Q,rfl,-⟩:=M;obtain⟨R,S,V,rfl⟩:=bO d.it;obtain⟨W,X,Y,rfl⟩:=bO d.tb;obtain⟨Z,ac,ad,rfl⟩:=bO d.nm;obtain⟨ae,aj,ak,rfl⟩:=bO d.ts;obtain⟨b,bJ,rfl,aV,bL,c⟩:=cK (f:=tJ) (k:=10) (fun _=>rfl) d.ex hn;have a0:a.cell? ⟨b,n*10,none⟩=some (.string r.sg):=c 0 (by omega);have a1:a.cell? ⟨b,n*10+1,none⟩=some (.int .i64 r.nu):=c 1 (by omega);have a2:a.cell? ⟨b,n*10+2,none⟩=some (.int .i64 r.k1):=c 2 (by omega);have a3:a.cell? ⟨b,n*10+3,none⟩=some (.int .i64 r.a1):=c 3 (by omega);have a4:a.cell? ⟨b,n*10+4,none⟩=some (.string r.s1):=c 4 (by omega);have a5:a.cell? ⟨b,n*10+5,none⟩=some (.int .i64 r.k2):=c 5 (by omega);have a9:a.cell? ⟨b,n*10+6,none⟩=some (.int .i64 r.a2):=c 6 (by omega);have a':a.cell? ⟨b,n*10+7,none⟩=some (.string r.s2):=c 7 (by omega);have ba:a.cell? ⟨b,n*10+8,none⟩=some (.int .i64 r.A):=c 8 (by omega);have bb:a.cell? ⟨b,n*10+9,none⟩=some (.int .i64 r.B):=c 9 (by omega);have bc:=d.c21;have be:=d.lt;have bN:decide ((n:Int)<0)=false:=by simp
 have bg:e<a.heap.size+1:=by omega
 have bk:e<a.heap.size+1+1:=by omega
 have bl:e<a.heap.size+1+1+1:=by omega
 have bn:b<a.heap.size+1:=by omega
 have bq:b<a.heap.size+1+1:=by omega
 have br:b<a.heap.size+1+1+1:=by omega
 have u1:(0:Int)<=(n:Int):=by omega
 have u2:(n:Int)<(l.length:Int):=by omega
 clear d c K L;go_enter func205,ntmps205;go_wp2_with fail
 obtain⟨g,i⟩: ∃g,g=((((a.alloc (.cells #[.pointer (some ⟨e,0,none⟩),.slice P T.length Q] 222)).alloc (.cells #[.slice R S V,.slice W X Y,.slice Z ac ad,.slice ae aj ak,.bool true] 105)).alloc (.cells #[.int .i64 0,.int .i64 0] 27)).alloc (.cells #[.string r.sg,.int .i64 r.nu,.int .i64 r.k1,.int .i64 r.a1,.string r.s1,.int .i64 r.k2,.int .i64 r.a2,.string r.s2,.int .i64 r.A,.int .i64 r.B] 374)):=⟨_,rfl⟩
 rw[<-i];have al:Below a.heap.size a g:=by rw[i];exact((((Jj _ _).alloc (Ji _) _).alloc (by simp) _).alloc (by simp;omega) _).alloc (by simp;omega) _
 have an:g.heap[a.heap.size]? =some (.cells #[.pointer (some ⟨e,0,none⟩),.slice P T.length Q] 222 (0,0)):=by rw[i];exact ai (ai (ai (af rfl)))
 have ao:g.heap[a.heap.size+1]? =some (.cells #[.slice R S V,.slice W X Y,.slice Z ac ad,.slice ae aj ak,.bool true] 105 (0,0)):=by rw[i];exact ai (ai (af (by simp)))
 have ap:g.heap[a.heap.size+1+1]? =some (.cells #[.int .i64 0,.int .i64 0] 27 (0,0)):=by rw[i];exact ai (af (by simp))
 have ar:g.heap[a.heap.size+1+1+1]? =some (.cells #[.string r.sg,.int .i64 r.nu,.int .i64 r.k1,.int .i64 r.a1,.string r.s1,.int .i64 r.k2,.int .i64 r.a2,.string r.s2,.int .i64 r.A,.int .i64 r.B] 374 (0,0)):=by rw[i];exact af (by simp)
 clear i;obtain⟨o,au,av,ax,ay⟩:=dD al an ao ap ar;clear al an ao ap ar a0 a1 a2 a3 a4 a5 a9 a' ba bb bc be bg bk bl aV bn bq br;refine(aT g (N.keep o) (O.keep o)).mono ?_;rintro bs aA ⟨rfl,j⟩;have D:=(j.block _ (aa au)).trans au;have E:=(j.block _ (aa av)).trans av;have hz:=(j.block _ (aa ax)).trans ax;have F:=(j.block _ (aa ay)).trans ay;obtain⟨bS,bX⟩:=blk D;obtain⟨b0,b1⟩:=blk E;obtain⟨p,aI⟩:=blk hz;obtain⟨b2,b3⟩:=blk F;have b4:=aa D;have b5:=aa E;have bt:=aa hz;have b6:=aa F;have aJ:Hid (Below a.heap.size a aA):=o.trans (j.mono o.size);have bu:=ab hz;clear j D E hz F
 cases C with
 |some aL=>
  obtain⟨aN,k⟩:=aL;have b7:(gX k !=0)=true:=by simp only[KZ,ne_eq];exact qQ k
  simp only[oI];generalize aR:gX k=bv at*;have bx:=ab aR;clear aR;go_wp2;refine Jr (v:=.agg #[.int .i64 bv,.int .i64 (aN:Nat)]) (by simp[results,results205,go_sem,p,bt]) rfl ⟨by show Ending.returned _=Ending.returned (.agg #[.int .i64 (gX k),.int .i64 (aN:Nat)]);rw[U bx],?_⟩
  repeat(first|exact U aJ|apply JI|refine J0 ?_ (by show a.heap.size<=a.heap.size+1+1;omega) _|refine JY ?_ (by simp;omega) _)
 |none=>
  simp only[oI];go_wp2_with fail;have q:Hid (Below a.heap.size a (aA.alloc (.cells #[.int .i64 0,.int .i64 0] 27))):=aJ.alloc (by omega) _;refine(aU _ (N.keep q) (O.keep q)).mono ?_;rintro bs bz ⟨rfl,G⟩;have hz:=(G.block (a.heap.size+1+1) (by simp;omega)).trans (ai bu);have bA:Hid (Below a.heap.size a bz):=q.trans (G.mono q.size);clear p aI;obtain⟨p,aI⟩:=blk hz;have b9:=aa hz;clear G hz
  obtain⟨H,I,J⟩: ∃H I:Int,oI m=.agg #[.int .i64 H,.int .i64 I]:=by
   cases m with
   |none=>exact⟨_,_,rfl⟩
   |some aL=>exact⟨_,_,rfl⟩
  rw[J];have bF:=ab J;clear J;go_wp2;refine Jr (v:=.agg #[.int .i64 H,.int .i64 I]) (by simp[results,results205,go_sem,p]) rfl ⟨by show Ending.returned _=Ending.returned (oI m);rw[U bF],?_⟩
  repeat(first|exact U bA|apply JI|refine J0 ?_ (by show a.heap.size<=a.heap.size+1+1;omega) _|refine JY ?_ (by simp;omega) _)
end
section
open Go.RowKit Go.MuLone Go.Maps Go.WideMaps Tryz
def lc(k:Nat):Prop:=k=fS∨k=jZ∨k=fU∨k=bE∨k=dY∨k=eW∨k=iJ∨k=uA∨k=cB∨k=sU
theorem tM(a:Nat->Addr)(m:Nat)(w:World)(b:cJ a m w)(k:Nat)(n:lc k):
  Calls prog 41 #[bI a k] w fun e w'=>e=.returned (.int .i64 (gX k))/\w'=w:=by
 have q:=b.cell 0 (by decide);have r:=b.cell 1 (by decide);have s:=b.cell 2 (by decide);have t:=b.cell 3 (by decide);have u:=b.cell 5 (by decide);have v:=b.cell 6 (by decide);have x:=b.cell 7 (by decide);have y:=b.cell 8 (by decide);have z:=b.cell 4 (by decide);have A:=b.cell 9 (by decide);have g:=EP a w k;have B:=fun o=>AH w o;rcases n with rfl|rfl|rfl|rfl|rfl|rfl|rfl|rfl|rfl|rfl
 ·clear b;go_enter func41,ntmps41;go_wp2;go_ret;exact⟨rfl,rfl⟩
 ·have c:=b.other jZ 0 (by decide) (by decide) (by decide);clear b;go_enter func41,ntmps41;go_wp2;go_ret;exact⟨rfl,rfl⟩
 ·have c:=b.other fU 0 (by decide) (by decide) (by decide);have d:=b.other fU 1 (by decide) (by decide) (by decide);clear b;go_enter func41,ntmps41;go_wp2;go_ret;exact⟨rfl,rfl⟩
 ·have c:=b.other bE 0 (by decide) (by decide) (by decide);have d:=b.other bE 1 (by decide) (by decide) (by decide);have f:=b.other bE 2 (by decide) (by decide) (by decide);clear b;go_enter func41,ntmps41;go_wp2;go_ret;exact⟨rfl,rfl⟩
 ·have c:=b.other 5 0 (by decide) (by decide) (by decide);have d:=b.other 5 1 (by decide) (by decide) (by decide);have f:=b.other 5 2 (by decide) (by decide) (by decide);have hz:=b.other 5 3 (by decide) (by decide) (by decide);unfold dY at g⊢;clear b;go_enter func41,ntmps41;go_wp2;go_ret;exact⟨rfl,rfl⟩
 ·have c:=b.other 6 0 (by decide) (by decide) (by decide);have d:=b.other 6 1 (by decide) (by decide) (by decide);have f:=b.other 6 2 (by decide) (by decide) (by decide);have hz:=b.other 6 3 (by decide) (by decide) (by decide);have i:=b.other 6 5 (by decide) (by decide) (by decide);unfold eW at g⊢;clear b;go_enter func41,ntmps41;go_wp2;go_ret;exact⟨rfl,rfl⟩
 ·have c:=b.other 7 0 (by decide) (by decide) (by decide);have d:=b.other 7 1 (by decide) (by decide) (by decide);have f:=b.other 7 2 (by decide) (by decide) (by decide);have hz:=b.other 7 3 (by decide) (by decide) (by decide);have i:=b.other 7 5 (by decide) (by decide) (by decide);have j:=b.other 7 6 (by decide) (by decide) (by decide);unfold iJ at g⊢;clear b;go_enter func41,ntmps41;go_wp2;go_ret;exact⟨rfl,rfl⟩
 ·have c:=b.other 8 0 (by decide) (by decide) (by decide);have d:=b.other 8 1 (by decide) (by decide) (by decide);have f:=b.other 8 2 (by decide) (by decide) (by decide);have hz:=b.other 8 3 (by decide) (by decide) (by decide);have i:=b.other 8 5 (by decide) (by decide) (by decide);have j:=b.other 8 6 (by decide) (by decide) (by decide);have l:=b.other 8 7 (by decide) (by decide) (by decide);unfold uA at g⊢;clear b;go_enter func41,ntmps41;go_wp2;go_ret;exact⟨rfl,rfl⟩
 ·have c:=b.other cB 0 (by decide) (by decide) (by decide);have d:=b.other cB 1 (by decide) (by decide) (by decide);have f:=b.other cB 2 (by decide) (by decide) (by decide);have hz:=b.other cB 3 (by decide) (by decide) (by decide);have i:=b.other cB 5 (by decide) (by decide) (by decide);have j:=b.other cB 6 (by decide) (by decide) (by decide);have l:=b.other cB 7 (by decide) (by decide) (by decide);have p:=b.other cB 8 (by decide) (by decide) (by decide);clear b;go_enter func41,ntmps41;go_wp2;go_ret;exact⟨rfl,rfl⟩
 ·have c:=b.other 9 0 (by decide) (by decide) (by decide);have d:=b.other 9 1 (by decide) (by decide) (by decide);have f:=b.other 9 2 (by decide) (by decide) (by decide);have hz:=b.other 9 3 (by decide) (by decide) (by decide);have i:=b.other 9 5 (by decide) (by decide) (by decide);have j:=b.other 9 6 (by decide) (by decide) (by decide);have l:=b.other 9 7 (by decide) (by decide) (by decide);have p:=b.other 9 8 (by decide) (by decide) (by decide);have C:=b.other 9 4 (by decide) (by decide) (by decide);unfold sU at g⊢;clear b;go_enter func41,ntmps41;go_wp2;go_ret;exact⟨rfl,rfl⟩
theorem yJ(a:Nat->Addr)(d:Nat)(w:World)(f:cJ a d w)(b p k:Nat)(hz:lc k)(c:cM w b p (bI a k)):
  Calls prog 15 #[.iface 110 (.pointer (some ⟨b,0,none⟩))] w fun e w'=>e=.returned (.agg #[.int .i64 (gX k),.int .i64 p])/\Below w.heap.size w w':=by
 have i:=ab f;obtain⟨m,n⟩:=blk c;have o:=aa c;clear f c;have q:=Hu;go_enter func15,ntmps15;go_wp2_with fail;refine(tM a d _ (by exact i.alloc _) k hz).mono ?_;rintro e r ⟨rfl,rfl⟩;generalize g:gX k=j at*;have l:=ab g;clear g;go_wp2;refine Jr (v:=.agg #[.int .i64 j,.int .i64 p]) (by simp[results,results15,go_sem]) rfl ⟨by rw[U l],?_⟩;exact(Jj _ _).alloc (Ji _) _
theorem kR(a:Nat->Addr)(b:Nat)(w:World)(c:cJ a b w)(k:Nat)(f:lc k):
  Calls prog 15 #[bI a k] w fun e w'=>e=.returned (.agg #[.int .i64 (gX k),.int .i64 (-1)])/\Below w.heap.size w w':=by
 have g:=ab c;clear c;have j:=IB;go_enter func15,ntmps15;go_wp2_with fail;refine(tM a b _ (by exact g.alloc _) k f).mono ?_;rintro e l ⟨rfl,rfl⟩;generalize d:gX k=hz at*;have i:=ab d;clear d;go_wp2;refine Jr (v:=.agg #[.int .i64 hz,.int .i64 (-1)]) (by simp[results,results15,go_sem]) rfl ⟨by rw[U i],?_⟩;exact(Jj _ _).alloc (Ji _) _
theorem vO(w:World):
  Calls prog 15 #[.nilIface] w fun e w'=>e=.returned (.agg #[.int .i64 0,.int .i64 0])/\Below w.heap.size w w':=by
 go_enter func15,ntmps15;go_wp2;refine Jr (v:=.agg #[.int .i64 0,.int .i64 0]) (by simp[results,results15,go_sem]) rfl ⟨rfl,?_⟩;exact(Jj _ _).alloc (Ji _) _
theorem BQ(w:World)(a i:Nat)(j:Value)(k m:Int)(c:w.heap[a]? =some (.cells (dr j 0 k i m) 140 (0,0))):
  Calls prog 57 #[.pointer (some ⟨a,1,none⟩)] w fun e w'=>e=.returned (.int .i64 m)/\Below w.heap.size w w':=by
 obtain⟨b,d⟩:=blk c;have u:=aa c;have p:w.cell? ⟨a,1,none⟩=some (.int .i32 0):=b 1;have f1:w.frozen? ⟨a,1,none⟩=false:=d 1;have v:w.cell? ⟨a,4,none⟩=some (.int .i64 m):=b 4;have q:=ab c;have l:=am (off:=1) c (.int .i32 1);have n:Hid ((w.setCell ⟨a,1,none⟩ (.int .i32 1)).heap[a]? =some (.cells (dr j 1 k i m) 140 (0,0))):=l;clear c l b d
 go_enter_defers func57,ntmps57
 go_wp2_with (go_at_call 76;refine(Mb jA ⟨a,1,none⟩ _ p f1).mono ?_;rintro e w' ⟨rfl,rfl⟩);obtain⟨b,d⟩:=blk n;have r:(w.setCell ⟨a,1,none⟩ (.int .i32 1)).cell? ⟨a,1,none⟩=some (.int .i32 1):=b 1;have s:(w.setCell ⟨a,1,none⟩ (.int .i32 1)).frozen? ⟨a,1,none⟩=false:=d 1;clear b d;refine LR (f:=77) (args:= #[.pointer (some ⟨a,1,none⟩)]) (by simp) (by simp[go_sem]) ?_;refine(Lp jA ⟨a,1,none⟩ .returning _ r s).mono ?_;rintro e x y ⟨rfl,rfl,rfl⟩;refine⟨_,results_tmp rfl _ _ _,rfl,?_⟩;have g:aF a a w ((w.setCell ⟨a,1,none⟩ (.int .i32 1)).setCell ⟨a,1,none⟩ (.int .i32 0)):=(aF.setCell a a w 1 _).trans (aF.setCell a a _ 1 _);refine⟨g.os,g.tape,g.output,g.size,fun o t=>?_⟩;by_cases hz:o=a
 ·rw[hz,am (U n),U q];rfl
 ·exact g.block o t hz hz
theorem tN(a:Nat->Addr)(w:World)(b d:Nat)(f:Value)(g m:Int)(i:List ByteArray)(c:Qs a w b d f g i m):
  Calls prog 29 #[.pointer (some ⟨b,0,none⟩)] w fun e w'=>e=.returned (.int .i64 m)/\Below w.heap.size w w':=by
 have j:=ab (BQ w b d f g m c.blk);have l:=aa c.blk;clear c;go_enter func29,ntmps29;go_wp2_with fail;refine j.mono ?_;rintro e n ⟨rfl,hz⟩;have k:=ab hz;clear hz;go_wp2;go_ret;exact⟨rfl,k⟩
end
end Go.Proofs.YtfkeddkfegaeiaaGreatDoor
