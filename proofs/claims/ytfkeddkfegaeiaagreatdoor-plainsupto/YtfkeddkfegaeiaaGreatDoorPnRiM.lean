import Derived.Test.YtfkeddkfegaeiaaGreatDoorPnRiG
set_option maxRecDepth 100000
set_option maxHeartbeats 20000000
namespace Go.Proofs.YtfkeddkfegaeiaaGreatDoor
section
open Go.RowKit Tryz
theorem DO:(prog.info? 42).map (fun i=>(i.zero,i.size,i.bytes))=some (some (.slice none 0 0),1,24):=by kernel_rfl
def nn(f W:World)(u:Value)(l:List (List Int)):Prop:= ∃(b:Nat) (a:List Value),u=.slice (some ⟨b,0,none⟩) a.length a.length/\W.heap[b]? =some (.cells a.toArray 32 (0,0))/\a.length=l.length/\a.length<=maxLen/\ ∀(c:Nat) (d:Value) (e:List Int),a[c]? =some d->l[c]? =some e->aS f d (aE e)
structure jE(w0 W:World)(lo:Nat)(v:Value)(us:List Value)(ls:List (List (List Int))):Prop where
 own:W.ownsRow lo 42 1 v us.length us
 len:us.length=ls.length
 at': ∀(k:Nat) (u:Value) (l:List (List Int)),us[k]? =some u->ls[k]? =some l->nn w0 W u l
theorem nn.keep{a W W':World}{u:Value}{l:List (List Int)}(d:nn a W u l)(e:Below W.heap.size W W'):nn a W' u l:=by obtain⟨b,f,g,c,h⟩:=d;exact⟨b,f,g,(e.block b (aa c)).trans c,h⟩
theorem nn.rows{a W:World}{u:Value}{l:List (List Int)}(c:nn a W u l)(d:Below a.heap.size a W):bZ W u l:=by obtain⟨e,f,g,b,h,i,j⟩:=c;refine⟨f,⟨_,_,g,i,fun _=>⟨e,0,rfl,aa b,fun p q=>?_⟩⟩,h,fun k m u n o=>(j k u m o n).keep d⟩;rw[(blk b).1];simp
theorem nn.grown{d W W':World}{u:Value}{l:List (List Int)}{lo n:Nat}{v:Value}{xs:List Value}(f:nn d W u l)(h:W.ownsRow lo 42 1 v n xs)(i:W.grownBy W' v.ownBlock):nn d W' u l:=by
 obtain⟨e,j,k,c,m⟩:=f;refine⟨e,j,k,(i.block e (aa c) (fun a=>?_)).trans c,m⟩;rcases h.2 with⟨hv,_⟩|⟨g,cap,cur,hv,hge,b,_⟩
 ·rw[hv]at a;cases a
 ·rw[hv]at a;injection a with a;subst a;rw[c]at b;injection b with b;injection b with _ o _;exact absurd o (by decide)
theorem jE.keep{b W W':World}{lo:Nat}{v:Value}{us:List Value}{c:List (List (List Int))}(a:jE b W lo v us c)(d:Below W.heap.size W W'):jE b W' lo v us c:=⟨dJ a.own d,a.len,fun e f g h i=>(a.at' e f g h i).keep d⟩
theorem jE.lower{b W:World}{lo c:Nat}{v:Value}{us:List Value}{d:List (List (List Int))}(a:jE b W lo v us d)(e:c<=lo):jE b W c v us d:=⟨⟨a.own.1,a.own.2.imp id (fun⟨f,g,h,i,j,k⟩=>⟨f,g,h,i,Jt e j,k⟩)⟩,a.len,a.at'⟩
theorem jE.snoc{d W W':World}{lo:Nat}{v v' u:Value}{us:List Value}{f:List (List (List Int))}{l:List (List Int)}(a:jE d W lo v us f)(i:nn d W u l)(j:W'.ownsRow lo 42 1 v' (us.length+1) (us++[u]))(g:W.grownBy W' v.ownBlock):jE d W' lo v' (us++[u]) (f++[l]):=by
 refine⟨by rw[Jk];exact j,by simp[a.len],fun e k m b c=>?_⟩;by_cases h:e<us.length
 ·rw[Jz h]at b;rw[Jz (by rw[<-a.len];exact h)]at c;exact(a.at' e k m b c).grown a.own g
 ·rw[Jw (by omega)]at b;rw[Jw (by rw[<-a.len];omega),<-a.len]at c;have n:e-us.length=0:=by have:=(Jy.1 b).1;simp at this;omega
  rw[n]at b c;simp at b c;subst b c;exact i.grown a.own g
def kU(T:List Tb)(a:List Sr)(x:dP)(n:Nat):Bool:=(x.tests.map fun b=>iX (a6 T a) b).all fun c=>c (gj (aK T a) n)
def nR(T:List Tb)(a:List Sr)(x:dP)(n k:Nat):Bool:=(x.tests.take k).all fun b=>iX (a6 T a) b (gj (aK T a) n)
theorem qR{T:List Tb}{a:List Sr}{x:dP}{n k:Nat}(b:x.tests.length<=k):nR T a x n k=kU T a x n:=by unfold nR kU;rw[JJ b,List.all_map];rfl
theorem DP{T:List Tb}{b:List Sr}{x:dP}{n k:Nat}(a:nR T b x n k=false):kU T b x n=false:=by
 rw[<-qR (Ji x.tests.length)];by_cases c:x.tests.length<=k
 ·rw[qR (Ji _),<-qR c];exact a
 ·unfold nR at a⊢;rw[LC];have d:x.tests=x.tests.take k++x.tests.drop k:=(KK _ _).symm;rw[d,Ld,a];rfl
theorem Fz{T:List Tb}{a:List Sr}{x:dP}{n k:Nat}{u:cn}(b:x.tests[k]? =some u):nR T a x n (k+1)=(nR T a x n k&&iX (a6 T a) u (gj (aK T a) n)):=by unfold nR;rw[K',b];simp
def dK(T:List Tb)(a:List Sr)(x:dP)(b:Nat):List Nat:=(List.range b).filter (kU T a x)
theorem BW(T:List Tb)(a:List Sr)(x:dP)(n:Nat):dK T a x (n+1)=dK T a x n++if kU T a x n then [n]else []:=by
 unfold dK;rw[List.range_succ,Ma]
 congr 1
 cases b:kU T a x n<;>simp[b]
theorem pm: ∀(l:List Nat) (a:Nat),l.foldl (· * ·) a=a*l.foldl (· * ·) 1
 | [],a=>by simp
 |x::l,a=>by
  show l.foldl (· * ·) (a*x)=a*l.foldl (· * ·) (1*x)
  rw[pm l (a*x),pm l (1*x),MX,Nat.mul_assoc]
theorem rH(l:List (List Int))(a:List (List (List Int))):cU (l::a)=l.length*cU a:=by
 show(a.map List.length).foldl (· * ·) (1*l.length)=_
 rw[pm,MX];rfl
theorem sk: ∀ {a:List (List (List Int))},0<dQ a-> ∀l∈a,0<l.length
 | [],_,l,b=>by simp at b
 |x::a,c,l,b=>by
  have e:dQ (x::a)=x.length*dQ a:=rH x a;rw[e]at c;rcases JG.1 b with rfl|b
  ·exact Nat.pos_of_mul_pos_right c
  ·exact sk (Nat.pos_of_mul_pos_left c) l b
theorem BY: ∀(a:List (List (List Int))) (n m:Nat) (l:List (List Int)),a[m]? =some l->n/cU (a.drop m)=n/cU (a.drop (m+1))/l.length:=by intro a n m l b;obtain⟨c,d⟩:=Jy.1 b;rw[Kz c,d,rH,Nat.mul_comm,Nat.div_div_eq_div_mul]
theorem yS: ∀(a:List (List (List Int))) (n m:Nat) (l:List (List Int)),a[m]? =some l->0<l.length->(fm a n)[m]? =l[n/cU (a.drop (m+1))%l.length]?
 | [],n,m,l,b,_=>by simp at b
 |x::a,n,0,l,b,c=>by
  obtain rfl:x=l:=by simpa using b
  show some (x.getD (n/cU a%x.length) [])=_
  have:=Nat.mod_lt (n/cU a) c;rw[JC]
  show _=x[n/cU a%x.length]?
  rw[Jl this];rfl
 |x::a,n,m+1,l,b,c=>yS a n m l (by simpa using b) c
theorem FB(w:World)(lo q:Nat)(cz:Value)(T:List Tb)(cF:T.length<=5)(cI:List RE)(V:List RI)(c P:List RT)(rs:List RP)(fv fw fx fy d':Value)(F:PQ w lo q cI V c P rs fv fw fx fy d')(ea:bp w cz T)(x:dP)(bx:qn cI V c P rs x)(ko:x.srcs.length<=3)(kp:x.tests.length<=1000)(b:Fs)(bz:b=aX T x.srcs)(fz:b.er=none)(fO: ∀u∈x.tests,gd T b.ss u=none)(f': ∀t∈T,t.rows.length<=200)(ga: ∀t∈T,∀r∈t.rows,r.length=t.cols.length)(K:Nat)(gb:K=dQ (aK T b.ss)):
  Calls prog 131 #[.agg #[.pointer (some ⟨q,0,none⟩),cz],si fv fw fx fy] w fun e w'=>Below w.heap.size w w'/\(4000<K->e=.returned (.tuple #[.slice none 0 0,.bool false]))/\
   (K<=4000-> ∃v us,e=.returned (.tuple #[v,.bool true])/\jE w w' w.heap.size v us ((dK T b.ss x K).map (fm (aK T b.ss)))):=by
 obtain⟨gc,hL,gf,hM,hN,gg⟩:=io bx bz gb fO ga f';obtain⟨hO,bb,b3⟩:=Jq.1 jS;simp only[JB]at b3;obtain⟨b4,b5,b6⟩:=b3;obtain⟨hP,hQ,hR,hS⟩:=aP bb b4 b5 b6;clear bb b4 b5 b6;obtain⟨hT,bb,b3⟩:=Jq.1 DO;simp only[JB]at b3;obtain⟨b4,b5,b6⟩:=b3;obtain⟨hV,hW,hX,hY⟩:=aP bb b4 b5 b6;clear bb b4 b5 b6;have ar:Hid (vP T b.ss c P):=by have gi:=fz;rw[bz]at gi;have B:=(lA x.srcs gi).ssr bx.tabs bx.names;rw[<-bz]at B;exact B
 have hZ:c.length<=3:=by have:=bx.tabs.len;omega
 have kq:rs.length<=1000:=by have:=bx.tests.len;omega
 obtain⟨aT,L,rfl,-⟩:=id ea;obtain⟨aU,c1,rfl⟩:=a8 F.it;obtain⟨aV,c2,rfl⟩:=a8 F.tb;obtain⟨a0,c3,rfl⟩:=a8 F.nm;obtain⟨eb,c4,rfl⟩:=a8 F.ts;obtain⟨gl,ed⟩:=ag F ea;clear F ea bx bz gb fO ga f' fz;go_enter func131,ntmps131;go_wp2_with fail
 obtain⟨s,b7⟩: ∃s,s=(w.alloc (.cells #[.pointer (some ⟨q,0,none⟩),.slice aT T.length L] 222)).alloc (.cells #[.slice aU V.length c1,.slice aV c.length c2,.slice a0 P.length c3,.slice eb rs.length c4,.bool true] 105):=⟨_,rfl⟩
 rw[<-b7];have cL:Below w.heap.size w s:=by rw[b7];exact((Jj _ _).alloc (Ji _) _).alloc (by simp) _
 have gm:s.heap[w.heap.size]? =some (.cells #[.pointer (some ⟨q,0,none⟩),.slice aT T.length L] 222 (0,0)):=by rw[b7];exact ai (af rfl)
 have gn:s.heap[w.heap.size+1]? =some (.cells #[.slice aU V.length c1,.slice aV c.length c2,.slice a0 P.length c3,.slice eb rs.length c4,.bool true] 105 (0,0)):=by rw[b7];exact af (by simp)
 obtain⟨b9,ef,eg,X,Y⟩:=dD cL (gl.keep cL) (ed.keep cL) gm gn;have h0:=ed;clear b7 cL gm gn gl ed
 go_loopg [6,7] c.length (fun f h1 a1 a=> ∃k:Nat,k+f=c.length/\a1=.int .i64 (k:Nat)/\h1=.int .i64 (dQ ((aK T b.ss).take k):Nat)/\Below s.heap.size s a)
 case atStart=>exact⟨0,by omega,rfl,rfl,Jj _ _⟩
 case round=>
  obtain⟨k,h2,rfl,rfl,h⟩:=hrel;have m:=(h.block _ (aa X)).trans X;have n:=(h.block _ (aa Y)).trans Y;obtain⟨G,Z⟩:=blk m;obtain⟨y,ac⟩:=blk n;have M:=aa m;have o:=aa n;obtain⟨cN,b',N⟩:=aC (ef.keep h) (eg.keep h) h;clear h m n;by_cases gq:k<c.length
  ·have a2:decide (k<c.length)=true:=by simp;omega
   obtain⟨au,rfl⟩: ∃au,gk=au+1:=⟨gk-1,by omega⟩
   obtain⟨g,ad⟩: ∃g,b.ss[k]? =some g:=⟨_,Jl (by rw[<-ar.lt];exact gq)⟩
   obtain⟨z,h3,a3,-,-,bc⟩:=ar.at' k g ad;obtain⟨tt,ae⟩:=nQ bc;obtain⟨W,h4,av,ei,-,aj⟩:=cK (f:=pI) (k:=3) (fun _=>rfl) cN.tb a3;injection av with av en eo;clear en;subst av eo;have ax:wr.cell? ⟨W,k*3+2,none⟩=some (.string z.s):=aj 2 (by omega);have h5:g.tab<T.length:=(Jy.1 ae).1;obtain⟨h6,h7,be,-,-,ca⟩:=U b';injection be with be ep eq;clear ep;subst be eq;obtain⟨A,C,rfl,ak,ay⟩:=ca (by omega);obtain⟨gr,er,es,d0,d1,d2⟩:=ay g.tab tt ae;obtain⟨gs,et,aA,-,-,⟨cb,⟨gt,bA,ev,-,-⟩,bg,-⟩⟩:=es;have ex:er=et:=by simp at aA;exact aA.2
   subst ex ev;rw[bg]at d2
   have cR:dQ ((aK T b.ss).take (k+1))=dQ ((aK T b.ss).take k)*tt.rows.length:=by
    have bk:(aK T b.ss)[k]? =some tt.rows:=by
     unfold aK;rw[J7,ad]
     show some (T.getD g.tab bd).rows=_
     rw[JC,ae];rfl
    rw[K',bk];exact vl _ _
   have gw:tt.rows.length<=200:=(U gg) tt (JL ae)
   have gx:dQ ((aK T b.ss).take k)<=200^3:=by
    have al:=uF ((aK T b.ss).take k) 1 (fun r bl=>by
     have gy:=Mx bl;unfold aK at gy;obtain⟨h8,kr,rfl⟩:=KM.1 gy;rw[JC]
     cases F:T[h8.tab]? with
     |none=>simp[bd]
     |some ez=>exact gg ez (JL F))
    have D:((aK T b.ss).take k).length<=3:=by rw[JU];omega
    have bF:200^((aK T b.ss).take k).length<=200^3:=Nat.pow_le_pow_right (by omega) D;unfold dQ;omega
   obtain⟨a4,gJ⟩: ∃a4,a4=dQ ((aK T b.ss).take k):=⟨_,rfl⟩
   rw[<-gJ]at cR gx⊢
   obtain⟨aI,gQ⟩: ∃aI,aI=tt.rows.length:=⟨_,rfl⟩
   rw[<-gQ]at cR gw d2;have ks:a4*aI<=200^3*200:=Nat.mul_le_mul gx gw
   have cT:IntKind.i64.wrap ((a4:Int)*(aI:Int))=((a4*aI:Nat):Int):=by
    have e:(a4:Int)*(aI:Int)=((a4*aI:Nat):Int):=by simp
    rw[e];generalize a4*aI=kt at*;unfold IntKind.wrap;simp[IntKind.bits,IntKind.signed];omega
   have h9:=ab cR;have an:wr.cell? ⟨w.heap.size,0,none⟩=some (.pointer (some ⟨q,0,none⟩)):=G 0;have ao:wr.cell? ⟨w.heap.size,1,none⟩=some (.slice (some ⟨A,C,none⟩) T.length L):=G 1;have ap:wr.cell? ⟨w.heap.size+1,1,none⟩=some (.slice (some ⟨W,0,none⟩) c.length c2):=y 1;have gW:(0:Int)<=(k:Int):=by omega
   have g0:(k:Int)<(c.length:Int):=by omega
   have h':(0:Int)<=(g.tab:Int):=by omega
   have ic:(g.tab:Int)<(T.length:Int):=by omega
   have eN:Hid (∀a,Below wr.heap.size wr a->Calls prog 130 #[.agg #[.pointer (some ⟨q,0,none⟩),.slice (some ⟨A,C,none⟩) T.length L],.string z.s] a fun e w'=>e=.returned (.int .i64 (g.tab:Int))/\Below a.heap.size a w'):=fun a Q=>by have B:=nj a (some ⟨q,0,none⟩) _ T (b'.keep Q) cF z.s;rw[show gH T z.s=(g.tab:Int)from by unfold gH;rw[bc]]at B;exact B
   clear aj ca ay aA ad a3 bc ae gJ gQ cR d0 d1 G y bg
   go_upto_region 5 with(fail)
   go_region_held3 (fun a=>a.cell? ⟨w.heap.size,0,none⟩=some (.pointer (some ⟨q,0,none⟩))/\a.cell? ⟨w.heap.size,1,none⟩=some (.slice (some ⟨A,C,none⟩) T.length L)/\a.cell? ⟨w.heap.size+1,1,none⟩=some (.slice (some ⟨W,0,none⟩) c.length c2)/\a.cell? ⟨W,k*3+2,none⟩=some (.string z.s)/\a.cell? ⟨A,C+g.tab*3+2,none⟩=some (.slice gt aI bA)) (go_keep) (first
    |(go_at_call 130;refine(eN _ (by exact(Jj _ _).drew)).mono ?_;rintro e cV ⟨rfl,bG⟩;have H:Below wr.heap.size wr cV:=(Jj _ _).drew.trans bG;have eR:=(H.cell (p:=⟨w.heap.size,0,none⟩) M).trans an;have eT:=(H.cell (p:=⟨w.heap.size,1,none⟩) M).trans ao;have eX:=(H.cell (p:=⟨w.heap.size+1,1,none⟩) o).trans ap;have e0:=(H.cell (p:=⟨W,k*3+2,none⟩) ei).trans ax;have e2:=(H.cell (p:=⟨A,C+g.tab*3+2,none⟩) ak).trans d2;have bJ:=ab H;clear bG H))
   go_wp2;go_roundg au
   case measure=>simp
   case rel=>exact⟨k+1,by omega,by go_num,by rw[U h9];go_num,N.trans (bJ.mono N.size)⟩
  ·have a2:decide (k<c.length)=false:=by simp;omega
   have g2:k=c.length:=by omega
   have g3:Hid (dQ ((aK T b.ss).take k)=K):=by unfold Hid;rw[U gf,g2,JJ (by simp[aK];rw[ar.lt];exact Ji _)]
   rw[U g3];clear g2 g3;have aJ:Hid (Below w.heap.size w wr):=b9.trans (N.mono b9.size);by_cases ku:4000<K
   ·have g4:decide ((4000:Int)<(K:Int))=true:=by simp;omega
    go_wp2;refine Jr (v:=.tuple #[.slice none 0 0,.bool false]) (by simp[results,results131,go_sem]) rfl ⟨U aJ,fun _=>rfl,fun bn=>by omega⟩
   ·have g4:decide ((4000:Int)<(K:Int))=false:=by simp;omega
    go_wp2_with fail;clear G Z y ac M o a2 g4 h2 gq cN b'
    go_loopg [8,9] K (fun f ih a1 a=> ∃(d:Nat) (us:List Value),d+f=K/\a1=.int .i64 (d:Nat)/\jE w a s.heap.size ih us ((dK T b.ss x d).map (fm (aK T b.ss)))/\Below s.heap.size s a)
    case atStart=>exact⟨0,[],by omega,rfl,⟨JF _ _ _ _,rfl,fun k u g6 bn=>by simp at bn⟩,N⟩
    case round=>
     clear N aJ;obtain⟨d,us,kv,rfl,e4,h⟩:=hrel;obtain⟨ik,il,rfl⟩:=bi e4.own;have m:=(h.block _ (aa X)).trans X;have n:=(h.block _ (aa Y)).trans Y;obtain⟨G,Z⟩:=blk m;obtain⟨y,ac⟩:=blk n;have M:=aa m;have o:=aa n;obtain⟨cN,b',cW,N⟩:=aP (ef.keep h) (eg.keep h) e4 h;have aJ:Hid (Below w.heap.size w wr):=b9.trans (h.mono b9.size);clear h m n e4;by_cases kw:d<K
     ·have a2:decide ((d:Int)<(K:Int))=true:=by simp;omega
      obtain⟨au,rfl⟩: ∃au,gk=au+1:=⟨gk-1,by omega⟩
      go_wp2_with (at_make;refine KU _ rfl _ _ 42 rfl wr.heap.size 32 hO (.slice none 0 0) 1 underlying42 hP hQ hR .i64 .i64 _ _ c.length rfl rfl ?c1 ?c2 ?c3 ?c4 ?c5 ?_)
      case c1=>simp
      case c2=>simp
      case c3=>rw[U hS];omega
      case c4=>unfold maxLen;omega
      case c5=>exact Ji _
      intro e5 g7 g8;rcases g7.2 with⟨hv,_⟩|⟨g1,cap9,cur,hv,hge,cZ,e1,av,e3,bq⟩
      ·cases hv
      injection hv with cc ip iq;injection cc with cc;injection cc with cc;subst cc
      have g9:cur.toList=List.replicate c.length (Value.slice none 0 0):=by
       have kx:cur.toList.length=c.length:=by rw[JP,e3];omega
       rw[Lb,JJ (by omega)]at bq;rw[bq];simp only[madeCells];apply LV
       ·simp
       ·intro a1 al D;simp[Nat.mod_one]
      have ir:Hid (e5.heap[wr.heap.size]? =some (.cells (List.replicate c.length (Value.slice none 0 0)).toArray 32 (0,0))):=by unfold Hid;rw[<-g9,L6];exact cZ
      have g':Hid (Below wr.heap.size wr e5):=(Jj _ _).grown g8 (Ji _) (fun k e=>by cases e);have cd:=U g';have m:=(cd.block _ M).trans ((N.block _ (aa X)).trans X);have n:=(cd.block _ o).trans ((N.block _ (aa Y)).trans Y);have ky:Hid (Below s.heap.size s e5):=N.trans (cd.mono N.size);have kz:=cd.size;clear g7 g8 cZ g9 e1 av e3 bq ip iq hge cd G Z y ac;obtain⟨G,Z⟩:=blk m;obtain⟨y,ac⟩:=blk n;have ce:=aa m;have c0:=aa n;have kF:IntKind.i64.wrap ((c.length:Int)-1)=(c.length:Int)-1:=by unfold IntKind.wrap;simp[IntKind.bits,IntKind.signed];omega
      obtain⟨it,iv⟩:=ag m n;clear m n;go_wp2_with fail;have ha:Hid ((aK T b.ss).length=c.length):=by unfold Hid aK;rw[Jm,ar.lt]
      have hb:Hid (∀g6∈aK T b.ss,0<g6.length):=sk (by have:=U gf;rw[<-this];omega);generalize cT:wr=I at*;clear G Z y ac ce c0 cT
      go_loopg [11,12] c.length (fun f cz e6 a=> ∃a5:List Value,f<=c.length/\e6=.int .i64 ((f:Int)-1)/\cz=.int .i64 (d/cU ((aK T b.ss).drop f):Nat)/\Below I.heap.size I a/\a.heap[I.heap.size]? =some (.cells a5.toArray 32 (0,0))/\a5.length=c.length/\ ∀(aL:Nat) (u:Value) (r:List Int),f<=aL->a5[aL]? =some u->(fm (aK T b.ss) d)[aL]? =some r->aS w u (aE r))
      case atStart=>
       refine⟨_,Ji _,rfl,?_,g',ir,by simp,fun aL u r al D _=>?_⟩
       ·rw[List.drop_of_length_le (by rw[U ha];exact Ji _)];simp[cU]
       ·rw[Kj (by simp;omega)]at D;cases D
      case round=>
       obtain⟨a5,k0,rfl,rfl,h,hc,e7,c6⟩:=hrel;have m:=(h.block _ M).trans ((N.block _ (aa X)).trans X);have n:=(h.block _ o).trans ((N.block _ (aa Y)).trans Y);obtain⟨G,Z⟩:=blk m;obtain⟨y,ac⟩:=blk n;have ce:=aa m;have c0:=aa n;obtain⟨it,iv,iw,ix,br,cf,e8⟩:=sq m n (cN.keep h) (b'.keep h) h hc c6;clear h hc c6 m n;by_cases cg:gk=0
       ·subst cg;have hd:decide ((0:Int)<=((0:Nat):Int)-1)=false:=by simp
        have he:Hid (nn w wr (.slice (some ⟨I.heap.size,0,none⟩) c.length c.length) (fm (aK T b.ss) d)):=⟨_,a5,by rw[e7],cf,by rw[e7,qu,U ha],by unfold maxLen;omega,fun aL v r al D=>(U e8) aL v r (KO _) al D⟩
        have bL:Hid (Below w.heap.size w wr):=aJ.trans (br.mono aJ.size);obtain⟨iA,i0⟩:=ag (he.rows bL) (cW.keep br);have c7:Hid (Below s.heap.size s wr):=N.trans (br.mono N.size);go_wp2_with fail;clear G Z y ac ce c0 hd e8 cf br cW a2;generalize cT:wr=hf at*;clear cT
        have c8:Hid (DJ T b.ss (fm (aK T b.ss) d)):=by
         have bz:=U hL
         have al: ∀g∈b.ss,∀r∈(T.getD g.tab bd).rows,r.length=(bh T g).length:=fun g ad r bl=>by
          unfold bh;rw[JC]at bl⊢
          cases F:T[g.tab]? with
          |none=>rw[F]at bl;simp[bd]at bl
          |some ez=>rw[F]at bl;exact hN ez (JL F) r bl
         have D: ∀g∈b.ss,0<(T.getD g.tab bd).rows.length:=fun g ad=>(U hb) _ (KM.2 ⟨g,ad,rfl⟩);unfold Hid;rw[bz]at al D⊢;exact yR al D d
        have hg:Hid ((fm (aK T b.ss) d).flatten=gj (aK T b.ss) d):=pj _ _
        go_loopg [14,15] rs.length (fun f i1 e6 a=> ∃k:Nat,k+f=rs.length/\e6=.int .i64 (k:Nat)/\i1=.bool (nR T b.ss x d k)/\Below hf.heap.size hf a)
        case atStart=>exact⟨0,by omega,rfl,rfl,Jj _ _⟩
        case round=>
         obtain⟨j,k1,rfl,rfl,h⟩:=hrel;have m:=(c7.block _ (aa X)).trans X;have n:=(c7.block _ (aa Y)).trans Y;replace m:=(h.block _ (aa m)).trans m;replace n:=(h.block _ (aa n)).trans n;obtain⟨G,Z⟩:=blk m;obtain⟨y,ac⟩:=blk n;have M:=aa m;have o:=aa n;have a9:Hid (Below s.heap.size s wr):=c7.trans (h.mono c7.size);obtain⟨e9,hh,hi,bN,i2,hj⟩:=io (ef.keep a9) (eg.keep a9) (iA.keep h) (i0.keep h) (he.keep h) h;have hk:Hid (rs.length=x.tests.length):=gc.tests.len;clear h m n;by_cases c9:j<rs.length/\nR T b.ss x d j=true
         ·obtain⟨F,e'⟩:=c9;have a2:decide (j<rs.length)=true:=by simp;omega
          rw[e']
          obtain⟨fa,rfl⟩: ∃fa,gk=fa+1:=⟨gk-1,by omega⟩
          obtain⟨R,c'⟩: ∃R,x.tests[j]? =some R:=⟨_,Jl (by rw[<-U hk];exact F)⟩
          obtain⟨z,a3,dd⟩:=gc.tests.at c';obtain⟨E,k2,bq,bs,-,aj⟩:=cK (f:=DA) (k:=3) (fun _=>rfl) e9.ts a3;injection bq with bq i3 i4;clear i3;subst bq i4;have df:wr.cell? ⟨E,j*3,none⟩=some (.string R.sg):=by rw[<-dd.1];exact aj 0 (by omega)
          have hl:wr.cell? ⟨E,j*3+1,none⟩=some (.int .i64 z.A):=aj 1 (by omega);have ax:wr.cell? ⟨E,j*3+2,none⟩=some (.int .i64 z.B):=aj 2 (by omega);have gW:(0:Int)<=(j:Int):=by omega
          have g0:(j:Int)<(rs.length:Int):=by omega
          obtain⟨bS,fb⟩: ∃fc,fc=dm (a6 T b.ss) R.l (gj (aK T b.ss) d):=⟨_,rfl⟩
          obtain⟨aN,fe⟩: ∃fc,fc=dm (a6 T b.ss) R.r (gj (aK T b.ss) d):=⟨_,rfl⟩
          have bX:=(U hM) R (JL c');unfold gd at bX
          have fg:cw T b.ss R.l=none:=by
           cases cZ:cw T b.ss R.l with
           |none=>rfl
           |some k3=>rw[cZ]at bX;cases bX
          rw[fg]at bX;have hm:cw T b.ss R.r=none:=bX;have hn:b.ss.length<=3:=by rw[<-ar.lt];exact hZ
          have i5:Hid (∀a,Below wr.heap.size wr a->Calls prog 132 #[.agg #[.pointer (some ⟨q,0,none⟩),.slice aT T.length L],.agg #[.slice aU V.length c1,.slice aV c.length c2,.slice a0 P.length c3,.slice (some ⟨E,0,none⟩) rs.length c4,.bool true],.int .i64 z.A,.slice (some ⟨I.heap.size,0,none⟩) c.length c.length] a fun e w'=>e=.returned (.int .i64 bS)/\Below a.heap.size a w'):=fun a Q=>by have B:=sj lo q _ T cF cI V c P rs _ _ _ _ d' b.ss ar hn _ c8 dd.2.1 fg a _ (e9.keep Q) (hh.keep Q) (hi.keep Q);rw[U hg,<-fb]at B;exact B
          have fk:Hid (∀a,Below wr.heap.size wr a->Calls prog 132 #[.agg #[.pointer (some ⟨q,0,none⟩),.slice aT T.length L],.agg #[.slice aU V.length c1,.slice aV c.length c2,.slice a0 P.length c3,.slice (some ⟨E,0,none⟩) rs.length c4,.bool true],.int .i64 z.B,.slice (some ⟨I.heap.size,0,none⟩) c.length c.length] a fun e w'=>e=.returned (.int .i64 aN)/\Below a.heap.size a w'):=fun a Q=>by have B:=sj lo q _ T cF cI V c P rs _ _ _ _ d' b.ss ar hn _ c8 dd.2.2 hm a _ (e9.keep Q) (hh.keep Q) (hi.keep Q);rw[U hg,<-fe]at B;exact B
          have i6:Hid (nR T b.ss x d (j+1)=eY R.sg bS aN):=by unfold Hid;rw[Fz c',e',fb,fe];rfl
          have an:wr.cell? ⟨w.heap.size,0,none⟩=some (.pointer (some ⟨q,0,none⟩)):=G 0;have ao:wr.cell? ⟨w.heap.size,1,none⟩=some (.slice aT T.length L):=G 1;have ch:wr.cell? ⟨w.heap.size+1,0,none⟩=some (.slice aU V.length c1):=y 0;have ap:wr.cell? ⟨w.heap.size+1,1,none⟩=some (.slice aV c.length c2):=y 1;have ci:wr.cell? ⟨w.heap.size+1,2,none⟩=some (.slice a0 P.length c3):=y 2;have bt:wr.cell? ⟨w.heap.size+1,3,none⟩=some (.slice (some ⟨E,0,none⟩) rs.length c4):=y 3;have cj:wr.cell? ⟨w.heap.size+1,4,none⟩=some (.bool true):=y 4;clear aj a3 dd c' fb fe G Z y ac bX fg hm e'
          go_upto_region 24 with(fail)
          go_cut [16]from 100 to 109 (fun cl a=>cl=.int .i64 bS/\Below wr.heap.size wr a)
          case first=>
           go_region_held3 (fun a=>a.cell? ⟨w.heap.size,0,none⟩=some (.pointer (some ⟨q,0,none⟩))/\a.cell? ⟨w.heap.size,1,none⟩=some (.slice aT T.length L)/\a.cell? ⟨w.heap.size+1,0,none⟩=some (.slice aU V.length c1)/\a.cell? ⟨w.heap.size+1,1,none⟩=some (.slice aV c.length c2)/\a.cell? ⟨w.heap.size+1,2,none⟩=some (.slice a0 P.length c3)/\a.cell? ⟨w.heap.size+1,3,none⟩=some (.slice (some ⟨E,0,none⟩) rs.length c4)/\a.cell? ⟨w.heap.size+1,4,none⟩=some (.bool true)/\a.cell? ⟨E,j*3+1,none⟩=some (.int .i64 z.A)) (go_keep) (first
            |(go_at_call 132;refine(i5 _ (by repeat(first|exact Jj _ _|apply JI))).mono ?_;rintro e fl ⟨rfl,cp⟩;have l:Below wr.heap.size wr fl:=Kn (by repeat(first|exact Jj _ _|apply JI)) cp;have eR:=(l.cell (p:=⟨w.heap.size,0,none⟩) M).trans an;have eT:=(l.cell (p:=⟨w.heap.size,1,none⟩) M).trans ao;have eX:=(l.cell (p:=⟨w.heap.size+1,0,none⟩) o).trans ch;have e0:=(l.cell (p:=⟨w.heap.size+1,1,none⟩) o).trans ap;have e2:=(l.cell (p:=⟨w.heap.size+1,2,none⟩) o).trans ci;have ho:=(l.cell (p:=⟨w.heap.size+1,3,none⟩) o).trans bt;have hp:=(l.cell (p:=⟨w.heap.size+1,4,none⟩) o).trans cj;have i8:=(l.cell (p:=⟨E,j*3+1,none⟩) bs).trans hl;have cq:=ab l;clear cp l))
           all_goals
            go_wp2_with fail;go_meet
            case rel=>exact⟨rfl,cq⟩
          case rest=>
           obtain⟨rfl,S⟩:=hcut;replace an:=(S.cell (p:=⟨w.heap.size,0,none⟩) M).trans an;replace ao:=(S.cell (p:=⟨w.heap.size,1,none⟩) M).trans ao;replace ch:=(S.cell (p:=⟨w.heap.size+1,0,none⟩) o).trans ch;replace ap:=(S.cell (p:=⟨w.heap.size+1,1,none⟩) o).trans ap;replace ci:=(S.cell (p:=⟨w.heap.size+1,2,none⟩) o).trans ci;replace bt:=(S.cell (p:=⟨w.heap.size+1,3,none⟩) o).trans bt;replace cj:=(S.cell (p:=⟨w.heap.size+1,4,none⟩) o).trans cj;replace df:=(S.cell (p:=⟨E,j*3,none⟩) bs).trans df;replace ax:=(S.cell (p:=⟨E,j*3+2,none⟩) bs).trans ax;have hq:=S.size;have fn:=ab S;generalize wc=J at*;replace fk:Hid (∀a,Below J.heap.size J a->Calls prog 132 #[.agg #[.pointer (some ⟨q,0,none⟩),.slice aT T.length L],.agg #[.slice aU V.length c1,.slice aV c.length c2,.slice a0 P.length c3,.slice (some ⟨E,0,none⟩) rs.length c4,.bool true],.int .i64 z.B,.slice (some ⟨I.heap.size,0,none⟩) c.length c.length] a fun e w'=>e=.returned (.int .i64 aN)/\Below a.heap.size a w'):=fun a Q=>(U fk) a (S.trans (Q.mono hq));replace M:w.heap.size<J.heap.size:=by omega
           replace o:w.heap.size+1<J.heap.size:=by omega
           replace bs:E<J.heap.size:=by omega
           clear S hl
           go_upto_region 25 with(fail)
           go_cut [17]from 110 to 119 (fun cl a=>cl=.int .i64 aN/\Below J.heap.size J a)
           case first=>
            go_region_held3 (fun a=>a.cell? ⟨w.heap.size,0,none⟩=some (.pointer (some ⟨q,0,none⟩))/\a.cell? ⟨w.heap.size,1,none⟩=some (.slice aT T.length L)/\a.cell? ⟨w.heap.size+1,0,none⟩=some (.slice aU V.length c1)/\a.cell? ⟨w.heap.size+1,1,none⟩=some (.slice aV c.length c2)/\a.cell? ⟨w.heap.size+1,2,none⟩=some (.slice a0 P.length c3)/\a.cell? ⟨w.heap.size+1,3,none⟩=some (.slice (some ⟨E,0,none⟩) rs.length c4)/\a.cell? ⟨w.heap.size+1,4,none⟩=some (.bool true)/\a.cell? ⟨E,j*3+2,none⟩=some (.int .i64 z.B)) (go_keep) (first
             |(go_at_call 132;refine(fk _ (by repeat(first|exact Jj _ _|apply JI))).mono ?_;rintro e fl ⟨rfl,cp⟩;have l:Below J.heap.size J fl:=Kn (by repeat(first|exact Jj _ _|apply JI)) cp;have eR:=(l.cell (p:=⟨w.heap.size,0,none⟩) M).trans an;have eT:=(l.cell (p:=⟨w.heap.size,1,none⟩) M).trans ao;have eX:=(l.cell (p:=⟨w.heap.size+1,0,none⟩) o).trans ch;have e0:=(l.cell (p:=⟨w.heap.size+1,1,none⟩) o).trans ap;have e2:=(l.cell (p:=⟨w.heap.size+1,2,none⟩) o).trans ci;have ho:=(l.cell (p:=⟨w.heap.size+1,3,none⟩) o).trans bt;have hp:=(l.cell (p:=⟨w.heap.size+1,4,none⟩) o).trans cj;have i8:=(l.cell (p:=⟨E,j*3+2,none⟩) bs).trans ax;have cq:=ab l;clear cp l))
            all_goals
             go_wp2_with fail;go_meet
             case rel=>exact⟨rfl,cq⟩
           case rest=>
            obtain⟨rfl,cr⟩:=hcut;replace bt:=(cr.cell (p:=⟨w.heap.size+1,3,none⟩) o).trans bt;replace df:=(cr.cell (p:=⟨E,j*3,none⟩) bs).trans df;have k4:=cr.size;generalize wc=b0 at*;have i9:Hid (Below wr.heap.size wr b0):=fn.trans (cr.mono hq);replace o:w.heap.size+1<b0.heap.size:=by omega
            replace bs:E<b0.heap.size:=by omega
            clear cr an ao ch ap ci cj ax;generalize dk:eY R.sg bS aN=jh at*;have jj:Hid (Calls prog 206 #[.string R.sg,.int .i64 bS,.int .i64 aN] b0 fun e w'=>e=.returned (.bool jh)/\w'=b0):=by have B:=BU R.sg bS aN b0;rw[dk]at B;exact B
            clear dk;go_wp2_with fail;refine jj.mono ?_;rintro e w' ⟨rfl,jp⟩;obtain rfl:=jp.symm;go_wp2;go_roundg fa
            case measure=>simp
            case rel=>exact⟨j+1,by omega,by go_num,by rw[U i6],hj.trans (i9.mono hj.size)⟩
         ·have fo:nR T b.ss x d j=kU T b.ss x d:=by
           cases aR:nR T b.ss x d j with
           |false=>exact(DP aR).symm
           |true=>have F: ¬j<rs.length:=fun bn=>c9 ⟨bn,aR⟩;rw[<-aR];exact qR (by rw[<-U hk];omega)
          have b1:Hid (dK T b.ss x (d+1)=dK T b.ss x d++if kU T b.ss x d then [d]else []):=BW T b.ss x d
          have dp:j<rs.length->nR T b.ss x d j=false:=fun bn=>by
           cases aR:nR T b.ss x d j with
           |false=>rfl
           |true=>exact absurd ⟨bn,aR⟩ c9
          rw[fo]at dp;rw[fo];clear fo c9;have bt:wr.cell? ⟨w.heap.size+1,3,none⟩=some (.slice eb rs.length c4):=y 3;by_cases F:j<rs.length
          ·have a2:decide (j<rs.length)=true:=by simp;omega
           have cs:=dp F;rw[cs]at b1⊢;clear dp cs;go_wp2;go_roundg au
           case measure=>simp
           case rel=>exact⟨d+1,us,by omega,by go_num,by rw[U b1];simpa using U bN,a9⟩
          ·have a2:decide (j<rs.length)=false:=by simp;omega
           clear dp
           cases cs:kU T b.ss x d with
           |false=>
            rw[cs]at b1;go_wp2;go_roundg au
            case measure=>simp
            case rel=>exact⟨d+1,us,by omega,by go_num,by rw[U b1];simpa using U bN,a9⟩
           |true=>
            rw[cs]at b1
            have k5:us.length<=d:=by
             have al:=bN.len;rw[Jm]at al;have D:(dK T b.ss x d).length<=d:=by unfold dK;exact Jt (Lz _ _) (by simp)
             omega
            go_wp2_with (at_builtin;refine JT _ rfl _ _ 123 rfl s.heap.size 42 hT (.slice none 0 0) 1 24 underlying123 hV hW hX hY rfl (by decide) _ _ _ rfl (bN.own.alloc _) ⟨wr.heap.size,0,none⟩ 1 1 [.slice (some ⟨I.heap.size,0,none⟩) c.length c.length] rfl rfl ?c1 ?c2 (by decide) ?c3 ?c4 ?c5 _ rfl ?_)
            case c2=>first|exact kL _ _ _|rfl
            case c3=>unfold maxLen;omega
            case c4=>omega
            case c5=>have:=a9.size;first|(simp;omega)|omega
            intro k6 k7 jx aR cg c6 _;have fp:Below wr.heap.size wr (wr.alloc (.cells #[.slice (some ⟨I.heap.size,0,none⟩) c.length c.length] 42)):=(Jj _ _).alloc (Ji _) _;have jY:=ab ((bN.keep fp).snoc (i2.keep fp) aR cg);have j0:Hid (Below s.heap.size s jx):=(a9.alloc a9.size _).grown cg (by simp;have:=a9.size;omega) (fun j1 e=>(bN.own.lt j1 e).1);clear aR cg c6 fp;go_wp2;go_roundg au
            case measure=>simp
            case rel=>exact⟨d+1,_,by omega,by go_num,by rw[U b1,Ks];exact U jY,j0⟩
       ·obtain⟨i,rfl⟩: ∃i,gk=i+1:=⟨gk-1,by omega⟩
        rw[show((i+1:Nat):Int)-1=(i:Int)by omega];have hd:decide ((0:Int)<=(i:Int))=true:=by simp
        obtain⟨g,ad⟩: ∃g,b.ss[i]? =some g:=⟨_,Jl (by rw[<-ar.lt];omega)⟩
        obtain⟨z,h3,a3,-,-,bc⟩:=ar.at' i g ad;obtain⟨tt,ae⟩:=nQ bc;obtain⟨W,h4,av,ei,-,aj⟩:=cK (f:=pI) (k:=3) (fun _=>rfl) iw.tb a3;injection av with av en eo;clear en;subst av eo;have ax:wr.cell? ⟨W,i*3+2,none⟩=some (.string z.s):=aj 2 (by omega);have h5:g.tab<T.length:=(Jy.1 ae).1;have j2:=ix;have j3:=br.size;have bL:Hid (Below w.heap.size w wr):=aJ.trans (br.mono aJ.size);have k8:=aJ.size;obtain⟨h6,h7,be,-,-,ca⟩:=U h0;injection be with be ep eq;clear ep;subst be eq;obtain⟨A,C,rfl,ak,ay⟩:=ca (by omega);obtain⟨gr,er,es,d0,d1,d2⟩:=ay g.tab tt ae;obtain⟨gs,et,aA,j4,-,hr⟩:=es;have j5:gr=gs:=by simp at aA;exact aA.1
        have ex:er=et:=by simp at aA;exact aA.2
        subst j5 ex;obtain⟨hs,ht,j6,-,-⟩:=j4;subst j6;rw[Jm]at d1;have j7:=ab hr;obtain⟨cb,⟨gt,bA,ev,-,dq⟩,bg,-⟩:=hr;subst ev
        have bk:(aK T b.ss)[i]? =some tt.rows:=by
         unfold aK;rw[J7,ad]
         show some (T.getD g.tab bd).rows=_
         rw[JC,ae];rfl
        have hu:0<tt.rows.length:=(U hb) _ (JL bk);rw[bg]at d2;obtain⟨a',bu,rfl,j8,dq⟩:=dq (by omega);replace d0:=(bL.cell (p:=⟨A,C+g.tab*3,none⟩) ak).trans d0;replace d1:=(bL.cell (p:=⟨A,C+g.tab*3+1,none⟩) ak).trans d1;replace d2:=(bL.cell (p:=⟨A,C+g.tab*3+2,none⟩) ak).trans d2;have k9:=ak;replace ak:A<wr.heap.size:=by omega
        have k':d/cU ((aK T b.ss).drop (i+1))<=d:=Nat.div_le_self _ _;have j9:Hid ((fm (aK T b.ss) d)[i]? =tt.rows[d/cU ((aK T b.ss).drop (i+1))%tt.rows.length]?):=yS _ d i _ bk hu;have j':Hid (d/cU ((aK T b.ss).drop i)=d/cU ((aK T b.ss).drop (i+1))/tt.rows.length):=BY _ d i _ bk;generalize d/cU ((aK T b.ss).drop (i+1))=O at*;have an:wr.cell? ⟨w.heap.size,0,none⟩=some (.pointer (some ⟨q,0,none⟩)):=G 0;have ao:wr.cell? ⟨w.heap.size,1,none⟩=some (.slice (some ⟨A,C,none⟩) T.length L):=G 1;have ap:wr.cell? ⟨w.heap.size+1,1,none⟩=some (.slice (some ⟨W,0,none⟩) c.length c2):=y 1;have gW:(0:Int)<=(i:Int):=by omega
        have g0:(i:Int)<(c.length:Int):=by omega
        have h':(0:Int)<=(g.tab:Int):=by omega
        have ic:(g.tab:Int)<(T.length:Int):=by omega
        have eN:Hid (∀a,Below wr.heap.size wr a->Calls prog 130 #[.agg #[.pointer (some ⟨q,0,none⟩),.slice (some ⟨A,C,none⟩) T.length L],.string z.s] a fun e w'=>e=.returned (.int .i64 (g.tab:Int))/\Below a.heap.size a w'):=fun a Q=>by have B:=nj a (some ⟨q,0,none⟩) _ T (j2.keep Q) cF z.s;rw[show gH T z.s=(g.tab:Int)from by unfold gH;rw[bc]]at B;exact B
        obtain⟨hw,la⟩:=ag dq bk;clear aj ca ay aA ad a3 bc ae G y dq bk
        go_upto_region 17 with(fail)
        go_cut [13]from 61 to 72 (fun cl a=> ∃bv,cl=.pointer (some ⟨bv,0,none⟩)/\wr.heap.size<=bv/\Below wr.heap.size wr a/\a.heap[bv]? =some (.cells #[.string tt.name,.slice hs tt.cols.length ht,.slice (some ⟨a',bu,none⟩) tt.rows.length bA] 204 (0,0)))
        case first=>
         go_region_held3 (fun a=>a.cell? ⟨w.heap.size,0,none⟩=some (.pointer (some ⟨q,0,none⟩))/\a.cell? ⟨w.heap.size,1,none⟩=some (.slice (some ⟨A,C,none⟩) T.length L)/\a.cell? ⟨w.heap.size+1,1,none⟩=some (.slice (some ⟨W,0,none⟩) c.length c2)/\a.cell? ⟨W,i*3+2,none⟩=some (.string z.s)/\a.cell? ⟨A,C+g.tab*3,none⟩=some (.string tt.name)/\a.cell? ⟨A,C+g.tab*3+1,none⟩=some (.slice hs tt.cols.length ht)/\a.cell? ⟨A,C+g.tab*3+2,none⟩=some (.slice (some ⟨a',bu,none⟩) tt.rows.length bA)) (first|go_keep|(refine⟨?_,?_,?_,?_,?_,?_,?_⟩<;>(rw[dj _ _ _ _ (by omega),dj _ _ _ _ (by omega),dj _ _ _ _ (by omega)];assumption))) (first
          |(go_at_call 130;refine(eN _ (by repeat(first|exact Jj _ _|apply JI|refine JY ?_ (by first|exact Ji _|simp) _))).mono ?_;rintro e cV ⟨rfl,bG⟩;have H:Below wr.heap.size wr cV:=Kn (by repeat(first|exact Jj _ _|apply JI|refine JY ?_ (by first|exact Ji _|simp) _)) (bG.mono (by first|exact Ji _|simp));have eR:=(H.cell (p:=⟨w.heap.size,0,none⟩) ce).trans an;have eT:=(H.cell (p:=⟨w.heap.size,1,none⟩) ce).trans ao;have eX:=(H.cell (p:=⟨w.heap.size+1,1,none⟩) c0).trans ap;have e0:=(H.cell (p:=⟨W,i*3+2,none⟩) ei).trans ax;have e2:=(H.cell (p:=⟨A,C+g.tab*3,none⟩) ak).trans d0;have ho:=(H.cell (p:=⟨A,C+g.tab*3+1,none⟩) ak).trans d1;have hp:=(H.cell (p:=⟨A,C+g.tab*3+2,none⟩) ak).trans d2;have bJ:=ab H;(try(have ct:cV.heap[wr.heap.size]? =some (.cells #[.string ⟨#[]⟩,.slice none 0 0,.slice none 0 0] 204 (0,0)):=(bG.block wr.heap.size (by simp)).trans (af rfl);obtain⟨lb,le⟩:=blk ct;have li:=aa ct;have ka:=ab ct;clear ct));clear bG H))
         all_goals
          go_wp2_with fail;go_meet
          case rel=>
           first
            |exact⟨_,rfl,Ji _,((bJ.setCell (Ji _) _).setCell (Ji _) _).setCell (Ji _) _,(am (am (am ka _) _) _).trans rfl⟩
            |exact⟨_,rfl,bJ.size,bJ.alloc bJ.size _,af rfl⟩
        case rest=>
         obtain⟨bv,rfl,ct,l,ay⟩:=hcut;generalize wc=ds at*;have dw:=(l.block _ (aa cf)).trans cf;have dT:=Nat.mod_lt O hu
         obtain⟨cu,fq⟩: ∃cu,cb[O%tt.rows.length]? =some cu:=⟨_,Jl (by rw[bg];exact dT)⟩
         have lm:ds.cell? ⟨a',bu+O%tt.rows.length,none⟩=some cu:=by rw[l.cell (p:=⟨a',bu+O%tt.rows.length,none⟩) (show a'<wr.heap.size by omega),bL.cell (p:=⟨a',bu+O%tt.rows.length,none⟩) j8,(U hw) _ (by rw[bg];exact dT)];exact fq
         obtain⟨hx,hy,kb,hz⟩:=U j7
         have hA:hx=cb:=by
          have ln:hx.length=cb.length:=by rw[kb,bg]
          obtain⟨lp,lq,fr,-,fs⟩:=hy;injection fr with fr lr ls;obtain⟨lt,lu,b2,-,fs⟩:=fs (by omega);rw[<-fr]at b2;injection b2 with b2;injection b2 with b2 kc;subst b2 kc;apply LN;intro a1;by_cases bb:a1<cb.length
          ·rw[<-(U hw) a1 bb,<-fs a1 (by omega)]
          ·rw[Kj (by omega),Kj (by omega)]
         obtain⟨ba,ft⟩: ∃ba,tt.rows[O%tt.rows.length]? =some ba:=⟨_,Jl dT⟩
         have hB:aS w cu (aE ba):=hz _ ba cu ft (by rw[hA];exact fq);have kd:=ab hB;obtain⟨hC,hD,hE,-,-⟩:=hB;have ke:(aE ba).length=ba.length:=by simp[aE]
         rw[ke]at hE;have c8:=ab ft;clear hy hz ft hA;subst hE;have cq:=ab l;have lv:=l.size;obtain⟨hF,kf⟩:=blk ay;have aN:=aa ay;obtain⟨hG,ly⟩:=blk dw;have lD:=aa dw;have dk:i<a5.length:=by omega
         have aR:ds.cell? ⟨I.heap.size,i,none⟩=some a5[i]:=by rw[hG i];simp[dk]
         obtain⟨kg,lK⟩:=ag dw dT;have lQ:(O:Int).tmod (tt.rows.length:Int)=((O%tt.rows.length:Nat):Int):=rfl;have lU:(O:Int).tdiv (tt.rows.length:Int)=((O/tt.rows.length:Nat):Int):=rfl;have l0:((tt.rows.length:Int)==0)=false:=by rw[Kb];omega
         clear l an ao ap ax d0 d1 d2 Z ac ay dw fq hG;go_wp2_with fail;have kk:bv≠I.heap.size:=by have:=aa cf;omega
         have kl:Hid (ds.cell? ⟨bv,2,none⟩=some (.slice (some ⟨a',bu,none⟩) tt.rows.length bA)):=hF 2
         go_region
         obtain⟨J,cv⟩: ∃J,J=(ds.setCell ⟨I.heap.size,i,none⟩ (.slice hC ba.length hD)).drew:=⟨_,rfl⟩
         rw[<-cv];have t2:J.cell? ⟨bv,2,none⟩=some (.slice (some ⟨a',bu,none⟩) tt.rows.length bA):=by rw[cv];exact(dj _ _ _ _ kk).trans kl
         have fn:Hid (Below I.heap.size I J):=by rw[cv];exact((br.trans (cq.mono j3)).setCell (Ji _) _).drew
         have kn:Hid (J.heap[I.heap.size]? =some (.cells (a5.set i (.slice hC ba.length hD)).toArray 32 (0,0))):=by rw[cv];refine(am kg _).trans ?_;simp
         clear cv hF kf aN;go_wp2;go_roundg i
         case measure=>simp
         case rel=>
          refine⟨_,by omega,by go_num,?_,fn,kn,by simpa using e7,fun aL u r al D bF=>?_⟩
          ·rw[U j'];have B:=Nat.div_le_self O tt.rows.length;rw[show(O:Int)/(tt.rows.length:Int)=((O/tt.rows.length:Nat):Int)from rfl];generalize O/tt.rows.length=hH at*;have hI:wrap64 (hH:Int)=(hH:Int):=by unfold wrap64;omega
           first|rw[hI]|(show Value.int _ (wrap64 _)=_;rw[hI])
          by_cases hJ:aL=i
          ·subst hJ;rw[List.getElem?_set_self (by omega)]at D;rw[U j9,U c8]at bF;injection D with D;injection bF with bF;rw[<-D,<-bF];exact kd
          ·rw[List.getElem?_set_ne (fun e=>hJ e.symm)]at D;exact e8 aL u r (by omega) D bF
     ·have a2:decide ((d:Int)<(K:Int))=false:=by simp;omega
      have hK:d=K:=by omega
      rw[hK]at cW;clear hK;go_wp2;refine Jr (v:=.tuple #[.slice ik us.length il,.bool true]) (by simp[results,results131,go_sem]) rfl ⟨U aJ,fun bn=>by omega,fun _=>⟨_,us,rfl,cW.lower b9.size⟩⟩
end
section
open Go.RowKit Go.MuLone Go.Maps Go.WideMaps Tryz
theorem DQ(a:Nat->Addr)(c:Value)(l:List Tb)(w:World)(j:nN a w)(k:bp w c l)(n:bT l=0):
  Calls prog 35 #[c] w fun e w'=> ∃d m g F f,e=.returned (.tuple #[.pointer (some ⟨d,0,none⟩),.nilIface])/\yf F g l f/\(∀b o,F b=some o->w.heap.size<=b/\b<m/\w'.heap[b]? =some o)/\w.heap.size<=m/\m<d/\w'.heap[m]? =some (.map #[] 0)/\w'.heap[d]? =some (.cells (dr (.slice (some ⟨g,0,none⟩) l.length l.length) 0 0 m 0) 140 (0,0))/\Below w.heap.size w w':=by
 obtain⟨y,p⟩:=ag j k;clear j k;have z:Hid (gT a (bT l)=.nilIface):=by unfold Hid gT;rw[Jo n]
 go_enter func35,ntmps35;go_wp2_with fail;refine(vz a c l _ (by exact y) (by exact p)).mono ?_;rintro e C ⟨rfl,q⟩;rw[U z];have hz:=ab q;clear q;go_wp2_with fail;refine(BD c l _ (by exact p.keep hz) n).mono ?_;rintro e i ⟨g,F,f,rfl,r,s,t⟩;obtain⟨A,B,u⟩:=aC r s t;clear r s t;have D:= @run_makeMap prog;go_wp2;have E:=hz.size;have G:=u.size;refine Jr (v:=.tuple #[.pointer (some ⟨i.heap.size+1,0,none⟩),.nilIface]) (by simp[results,results35,go_sem]) rfl ⟨i.heap.size+1,i.heap.size,g,F,f,rfl,A,fun b o e=>?_,by omega,by omega,?_,?_,?_⟩
 ·obtain⟨H,x⟩:=(U B) b o e;exact⟨by omega,fP x,ai (ai x)⟩
 ·exact ai (af rfl)
 ·exact af (by simp)
 ·exact((hz.trans (u.mono (by omega))).alloc (by omega) _).alloc (by simp;omega) _
theorem DR{w:World}{m:Nat}(b:w.heap[m]? =some (.map #[] 0)):w.ownsMap prog 9 l9 m 0 (.map []):=by obtain⟨g,h,a,c,d,e⟩:=World.ownsMap_made w prog 9 l9;rw[World.alloc_heap_new]at a;injection a with a;injection a with a f;subst a f;exact⟨#[],0,b,c,d,e⟩
end
section
open Go.RowKit Tryz
def im(T:List Tb)(a:List Sr)(x:dP)(m:Nat):List Int:=x.items.map fun b=>dm (a6 T a) b.val (gj (aK T a) m)
structure kV(W:World)(lo:Nat)(v:Value)(us:List Value)(ls:List (List Int)):Prop where
 own:W.ownsRow lo 32 1 v us.length us
 len:us.length=ls.length
 at': ∀(k:Nat) (u:Value) (r:List Int),us[k]? =some u->ls[k]? =some r->W.ownsRow lo 3 1 u r.length (aE r)
theorem kV.keep{W W':World}{lo:Nat}{v:Value}{us:List Value}{b:List (List Int)}(a:kV W lo v us b)(c:Below W.heap.size W W'):kV W' lo v us b:=⟨dJ a.own c,a.len,fun d e f g h=>dJ (a.at' d e f g h) c⟩
theorem kV.lower{W:World}{lo e:Nat}{v:Value}{us:List Value}{f:List (List Int)}(c:kV W lo v us f)(h:e<=lo):kV W e v us f:=
 ⟨⟨c.own.1,c.own.2.imp id (fun⟨g,cap,d,a,b,r⟩=>⟨g,cap,d,a,Jt h b,r⟩)⟩,c.len,fun k u r a b=>⟨(c.at' k u r a b).1,(c.at' k u r a b).2.imp id (fun⟨g,cap,d,a,b,r⟩=>⟨g,cap,d,a,Jt h b,r⟩)⟩⟩
theorem vU{W W':World}{lo g n m:Nat}{v u:Value}{xs d:List Value}(e:W.ownsRow lo 3 1 u m d)(h:W.ownsRow g 32 1 v n xs)(i:W.grownBy W' v.ownBlock):W'.ownsRow lo 3 1 u m d:=by
 refine⟨e.1,e.2.imp id (fun⟨f,j,k,l,o,c,p⟩=>⟨f,j,k,l,o,(i.block f (aa c) (fun a=>?_)).trans c,p⟩)⟩;rcases h.2 with⟨hv,_⟩|⟨g',cap',cur',hv,hge,b,_⟩
 ·rw[hv]at a;cases a
 ·rw[hv]at a;injection a with a;subst a;rw[c]at b;injection b with b;injection b with _ q _;exact absurd q (by decide)
theorem kV.snoc{W W':World}{lo:Nat}{v v' u:Value}{us:List Value}{e:List (List Int)}{l:List Int}(a:kV W lo v us e)(h:W.ownsRow lo 3 1 u l.length (aE l))(i:W'.ownsRow lo 32 1 v' (us.length+1) (us++[u]))(f:W.grownBy W' v.ownBlock):kV W' lo v' (us++[u]) (e++[l]):=by
 refine⟨by rw[Jk];exact i,by simp[a.len],fun d j k b c=>?_⟩;by_cases g:d<us.length
 ·rw[Jz g]at b;rw[Jz (by rw[<-a.len];exact g)]at c;exact vU (a.at' d j k b c) a.own f
 ·rw[Jw (by omega)]at b;rw[Jw (by rw[<-a.len];omega),<-a.len]at c;have m:d-us.length=0:=by have:=(Jy.1 b).1;simp at this;omega
  rw[m]at b c;simp at b c;subst b c;exact vU h a.own f
theorem FC(w:World)(lo o:Nat)(aL:Value)(T:List Tb)(b9:T.length<=5)(aN:List RE)(d:List RI)(q s:List RT)(rs:List RP)(aR aT aU W a':Value)(m:PQ w lo o aN d q s rs aR aT aU W a')(aV:bp w aL T)(x:dP)(J:qn aN d q s rs x)(b': ∀i∈x.items,i.win=none)(gt:x.items.length<=6)(dT:x.srcs.length<=3)(d':x.tests.length<=1000)(a:Fs)(E:a=aX T x.srcs)(ba:a.er=none)(ca: ∀i∈x.items,cw T a.ss i.val=none)(cb: ∀u∈x.tests,gd T a.ss u=none)(cc: ∀t∈T,t.rows.length<=200)(bb: ∀t∈T,∀r∈t.rows,r.length=t.cols.length)(g:Nat)(bc:g=dQ (aK T a.ss)):
  Calls prog 88 #[.agg #[.pointer (some ⟨o,0,none⟩),aL],si aR aT aU W] w fun e w'=>Below w.heap.size w w'/\(4000<g->e=.returned (.tuple #[.slice none 0 0,.bool false]))/\
   (g<=4000-> ∃v us,e=.returned (.tuple #[v,.bool true])/\kV w' w.heap.size v us ((dK T a.ss x g).map (im T a.ss x))):=by
 have cd:Hid (vP T a.ss q s):=by have ce:=ba;rw[E]at ce;have F:=(lA x.srcs ce).ssr J.tabs J.names;rw[<-E]at F;exact F
 have cf:Hid (∀b,Below w.heap.size w b->Calls prog 131 #[.agg #[.pointer (some ⟨o,0,none⟩),aL],si aR aT aU W] b fun e w'=>Below b.heap.size b w'/\(4000<g->e=.returned (.tuple #[.slice none 0 0,.bool false]))/\
   (g<=4000-> ∃v us,e=.returned (.tuple #[v,.bool true])/\jE b w' b.heap.size v us ((dK T a.ss x g).map (fm (aK T a.ss))))):=fun b K=>FB b lo o aL T b9 aN d q s rs aR aT aU W a' (m.keep K) (aV.keep K) x J dT d' a E ba cb cc bb g bc
 obtain⟨cg,ea,eb,ed,ef,eg⟩:=io J E bc ca b' bb;obtain⟨ei,X,Y⟩:=Jq.1 mw;simp only[JB]at Y;obtain⟨Z,ac,ad⟩:=Y;obtain⟨en,eo,ep,eq⟩:=aP X Z ac ad;clear X Z ac ad;obtain⟨er,X,Y⟩:=Jq.1 jS;simp only[JB]at Y;obtain⟨Z,ac,ad⟩:=Y;obtain⟨es,et,ev,ex⟩:=aP X Z ac ad;clear X Z ac ad;have ch:d.length=x.items.length:=J.items.len;have gw:d.length<=6:=by omega
 have ci:=ab ch;obtain⟨ae,G,rfl,-⟩:=id aV;obtain⟨cj,c1,rfl⟩:=a8 m.it;obtain⟨aj,c2,rfl⟩:=a8 m.tb;obtain⟨ak,c3,rfl⟩:=a8 m.nm;obtain⟨al,c4,rfl⟩:=a8 m.ts;obtain⟨cl,cp⟩:=ag m aV;clear m aV J E bc cb bb cc ba ca b' ch;go_enter func88,ntmps88;go_wp2_with fail
 obtain⟨L,an⟩: ∃L,L=(w.alloc (.cells #[.pointer (some ⟨o,0,none⟩),.slice ae T.length G] 222)).alloc (.cells #[.slice cj d.length c1,.slice aj q.length c2,.slice ak s.length c3,.slice al rs.length c4,.bool true] 105):=⟨_,rfl⟩
 rw[<-an];have ao:Below w.heap.size w L:=by rw[an];exact((Jj _ _).alloc (Ji _) _).alloc (by simp) _
 have be:L.heap[w.heap.size]? =some (.cells #[.pointer (some ⟨o,0,none⟩),.slice ae T.length G] 222 (0,0)):=by rw[an];exact ai (af rfl)
 have bg:L.heap[w.heap.size+1]? =some (.cells #[.slice cj d.length c1,.slice aj q.length c2,.slice ak s.length c3,.slice al rs.length c4,.bool true] 105 (0,0)):=by rw[an];exact af (by simp)
 have gx:=ab ao;clear an;refine(cf L ao).mono ?_;rintro e j ⟨ap,cq,cr⟩;have M:Hid (Below w.heap.size w j):=ao.trans (ap.mono ao.size);by_cases ez:4000<g
 ·obtain rfl:=cq ez;go_wp2;refine Jr (v:=.tuple #[.slice none 0 0,.bool false]) (by simp[results,results88,go_sem]) rfl ⟨U M,fun _=>rfl,fun bk=>by omega⟩
 ·obtain⟨v,us,rfl,a0⟩:=cr (by omega);obtain⟨eN,gy,rfl⟩:=bi a0.own;obtain⟨cs,ct,eR,eT,a1,eX⟩:=io ((ap.block _ (aa be)).trans be) ((ap.block _ (aa bg)).trans bg) (cl.keep M) (cp.keep M) a0 ap
  have gJ:us.length<=4000:=by
   have A:=a0.len;rw[Jm]at A;have ar:(dK T a.ss x g).length<=g:=by unfold dK;exact Jt (Lz _ _) (by simp)
   omega
  clear cq cr a0 ao ap be bg cf cl cp;go_wp2_with fail
  go_loopg [8,9] us.length (fun f e0 bl b=> ∃(k:Nat) (au:List Value),k+f=us.length/\bl=.int .i64 (k:Nat)/\kV b j.heap.size e0 au (((dK T a.ss x g).take k).map (im T a.ss x))/\Below j.heap.size j b)
  case atStart=>exact⟨0,[],by omega,rfl,⟨JF _ _ _ _,rfl,fun k u r bk=>by simp at bk⟩,Jj _ _⟩
  case round=>
   obtain⟨k,au,gQ,rfl,bn,y⟩:=hrel;obtain⟨e1,e2,rfl⟩:=bi bn.own;obtain⟨bq,B⟩:=ag bn y;have e3:Hid (Below w.heap.size w wr):=M.trans (y.mono M.size);clear bn y;by_cases cu:k<us.length
   ·have e4:decide (k<us.length)=true:=by simp;omega
    obtain⟨br,rfl⟩: ∃br,gk=br+1:=⟨gk-1,by omega⟩
    obtain⟨u,bs⟩: ∃u,us[k]? =some u:=⟨_,Jl cu⟩
    obtain⟨hz,a2⟩: ∃hz,(dK T a.ss x g)[k]? =some hz:=⟨_,Jl (by have:=a1.len;rw[Jm]at this;omega)⟩
    have gW:hz<g:=by
     have:=JL a2;unfold dK at this;have:=(List.mem_filter.1 this).1
     simpa using this
    have cv:=a1.at' k u _ bs (by rw[J7,a2];rfl);have cz:=cv.rows eX;have e5:=ab (cz.keep B)
    have e6:Hid (DJ T a.ss (fm (aK T a.ss) hz)):=by
     have E:=U ea;have e7: ∀l∈aK T a.ss,0<l.length:=sk (by have:=U eb;rw[<-this];omega)
     have A: ∀C∈a.ss,∀r∈(T.getD C.tab bd).rows,r.length=(bh T C).length:=fun C cF r av=>by
      unfold bh;rw[JC]at av⊢
      cases m:T[C.tab]? with
      |none=>rw[m]at av;simp[bd]at av
      |some e8=>rw[m]at av;exact eg e8 (JL m) r av
     have ar: ∀C∈a.ss,0<(T.getD C.tab bd).rows.length:=fun C cF=>e7 _ (KM.2 ⟨C,cF,rfl⟩);unfold Hid;rw[E]at A ar⊢;exact yR A ar hz
    have e9:Hid ((fm (aK T a.ss) hz).flatten=gj (aK T a.ss) hz):=pj _ _;have e':Hid (((dK T a.ss x g).take (k+1)).map (im T a.ss x)=((dK T a.ss x g).take k).map (im T a.ss x)++[im T a.ss x hz]):=by unfold Hid;rw[K',a2,Ks];rfl
    obtain⟨H,ax,rfl,fa,cI⟩: ∃z a3,eN=some ⟨z,a3,none⟩/\z<j.heap.size/\j.cell? ⟨z,a3+k,none⟩=some u:=by obtain⟨g0,g1,bt,-,bu⟩:=eL a1.own;injection bt with bt g2 g3;subst bt;obtain⟨z,a3,rfl,fb,bu⟩:=bu (by omega);exact⟨z,a3,rfl,fb,by rw[bu k cu];exact bs⟩
    have fc:=ab ((B.cell (p:=⟨H,ax+k,none⟩) fa).trans cI);have g4:(0:Int)<=(k:Int):=by omega
    have g6:(k:Int)<(us.length:Int):=by omega
    clear bs a2 cv cz cI;go_wp2_with fail;have fe:H<wr.heap.size:=by have:=B.size;omega
    generalize fg:wr=D at*;clear fg
    go_loopg [10,11] d.length (fun f fk bl b=> ∃(c:Nat),c+f=d.length/\bl=.int .i64 (c:Nat)/\b.ownsRow D.heap.size 3 1 fk c (aE ((im T a.ss x hz).take c))/\Below D.heap.size D b)
    case atStart=>exact⟨0,by omega,rfl,JF _ _ _ _,Jj _ _⟩
    case round=>
     obtain⟨c,g7,rfl,bv,y⟩:=hrel;obtain⟨bx,bz,rfl⟩:=bi bv;have N:=(B.block _ (aa cs)).trans cs;have O:=(B.block _ (aa ct)).trans ct;replace N:=(y.block _ (aa N)).trans N;replace O:=(y.block _ (aa O)).trans O;obtain⟨bA,fl⟩:=blk N;obtain⟨P,fn⟩:=blk O;have cL:=aa N;have ay:=aa O;have Q:Hid (Below j.heap.size j wr):=B.trans (y.mono B.size);obtain⟨cN,fo,cR,a4,R⟩:=dD (eR.keep Q) (eT.keep Q) (e5.keep y) bv y;clear bv y N O;by_cases g8:c<d.length
     ·have fp:decide (c<d.length)=true:=by simp;omega
      obtain⟨bF,rfl⟩: ∃bF,gk=bF+1:=⟨gk-1,by omega⟩
      obtain⟨S,aA⟩: ∃S,x.items[c]? =some S:=⟨_,Jl (by have:=U ci;omega)⟩
      obtain⟨bG,cT,cV⟩:=cg.items.at aA;obtain⟨cW,-,-,cZ,-⟩:=cV (ef S (JL aA));obtain⟨I,g9,bJ,fq,-,bL⟩:=cK (f:=AV) (k:=7) (fun _=>rfl) cN.it cT;injection bJ with bJ fr fs;clear fr;subst bJ fs;have ft:wr.cell? ⟨I,c*7+1,none⟩=some (.string ⟨#[]⟩):=by rw[<-cW];exact bL 1 (by omega)
      have c0:wr.cell? ⟨I,c*7+2,none⟩=some (.int .i64 bG.n):=bL 2 (by omega);have g':(0:Int)<=(c:Int):=by omega
      have ha:(c:Int)<(d.length:Int):=by omega
      obtain⟨aI,bN⟩: ∃fv,fv=dm (a6 T a.ss) S.val (gj (aK T a.ss) hz):=⟨_,rfl⟩
      have c6:cw T a.ss S.val=none:=(U ed) S (JL aA);have fw:a.ss.length<=3:=by rw[<-cd.lt];have:=cg.tabs.len;omega
      obtain⟨bS,bX,b0,rfl⟩: ∃b1 l b2,u=.slice b1 l b2:=by obtain⟨W,⟨b1,b2,e,-⟩,-⟩:=U cR;exact⟨b1,_,b2,e⟩
      have fx:Hid (∀b,Below wr.heap.size wr b->Calls prog 132 #[.agg #[.pointer (some ⟨o,0,none⟩),.slice ae T.length G],.agg #[.slice (some ⟨I,0,none⟩) d.length c1,.slice aj q.length c2,.slice ak s.length c3,.slice al rs.length c4,.bool true],.int .i64 bG.n,.slice bS bX b0] b fun e w'=>e=.returned (.int .i64 aI)/\Below b.heap.size b w'):=fun b K=>by have F:=sj lo o _ T b9 aN d q s rs _ _ _ _ a' a.ss cd fw _ e6 cZ c6 b _ (cN.keep K) (fo.keep K) (cR.keep K);rw[U e9,<-bN]at F;exact F
      have fy:Hid (aE ((im T a.ss x hz).take (c+1))=aE ((im T a.ss x hz).take c)++[.int .i64 aI]):=by
       have F:(im T a.ss x hz)[c]? =some aI:=by unfold im;rw[J7,aA,bN];rfl
       unfold Hid;rw[K',F,aE,Ks];rfl
      have c7:wr.cell? ⟨w.heap.size,0,none⟩=some (.pointer (some ⟨o,0,none⟩)):=bA 0;have c8:wr.cell? ⟨w.heap.size,1,none⟩=some (.slice ae T.length G):=bA 1;have c9:wr.cell? ⟨w.heap.size+1,0,none⟩=some (.slice (some ⟨I,0,none⟩) d.length c1):=P 0;have c':wr.cell? ⟨w.heap.size+1,1,none⟩=some (.slice aj q.length c2):=P 1;have dd:wr.cell? ⟨w.heap.size+1,2,none⟩=some (.slice ak s.length c3):=P 2;have df:wr.cell? ⟨w.heap.size+1,3,none⟩=some (.slice al rs.length c4):=P 3;have dk:wr.cell? ⟨w.heap.size+1,4,none⟩=some (.bool true):=P 4;have fz:H<wr.heap.size:=by have:=R.size;omega
      have dp:wr.cell? ⟨H,ax+k,none⟩=some (.slice bS bX b0):=(R.cell (p:=⟨H,ax+k,none⟩) fe).trans fc;clear bL cT cV aA bN bA fl P fn c6 cZ cW
      go_upto_region 14 with(fail)
      go_cut [12]from 41 to 53 (fun fO b=>fO=.int .i64 aI/\Below wr.heap.size wr b)
      case first=>
       go_region_held3 (fun b=>b.cell? ⟨w.heap.size,0,none⟩=some (.pointer (some ⟨o,0,none⟩))/\b.cell? ⟨w.heap.size,1,none⟩=some (.slice ae T.length G)/\b.cell? ⟨w.heap.size+1,0,none⟩=some (.slice (some ⟨I,0,none⟩) d.length c1)/\b.cell? ⟨w.heap.size+1,1,none⟩=some (.slice aj q.length c2)/\b.cell? ⟨w.heap.size+1,2,none⟩=some (.slice ak s.length c3)/\b.cell? ⟨w.heap.size+1,3,none⟩=some (.slice al rs.length c4)/\b.cell? ⟨w.heap.size+1,4,none⟩=some (.bool true)/\b.cell? ⟨I,c*7+2,none⟩=some (.int .i64 bG.n)/\b.cell? ⟨H,ax+k,none⟩=some (.slice bS bX b0)) (go_keep) (first
        |(go_at_call 132;refine(fx _ (by repeat(first|exact Jj _ _|apply JI))).mono ?_;rintro e f' ⟨rfl,dq⟩;have n:Below wr.heap.size wr f':=Kn (by repeat(first|exact Jj _ _|apply JI)) dq;have hb:=(n.cell (p:=⟨w.heap.size,0,none⟩) cL).trans c7;have hc:=(n.cell (p:=⟨w.heap.size,1,none⟩) cL).trans c8;have hd:=(n.cell (p:=⟨w.heap.size+1,0,none⟩) ay).trans c9;have he:=(n.cell (p:=⟨w.heap.size+1,1,none⟩) ay).trans c';have hf:=(n.cell (p:=⟨w.heap.size+1,2,none⟩) ay).trans dd;have hg:=(n.cell (p:=⟨w.heap.size+1,3,none⟩) ay).trans df;have hh:=(n.cell (p:=⟨w.heap.size+1,4,none⟩) ay).trans dk;have hi:=(n.cell (p:=⟨I,c*7+2,none⟩) fq).trans c0;have hj:=(n.cell (p:=⟨H,ax+k,none⟩) fz).trans dp;have ga:=ab n;clear dq n))
       all_goals
        go_wp2_with fail;go_meet
        case rel=>exact⟨rfl,ga⟩
      case rest=>
       obtain⟨rfl,b3⟩:=hcut;have ds:=ab (dJ a4 b3);have a5:Hid (Below D.heap.size D wc):=R.trans (b3.mono R.size);have gb:=a5.size;generalize wc=gc at*;clear b3 c7 c8 c9 c' dd df dk ft c0 dp;go_wp2_with (at_builtin;refine JT _ rfl _ _ 32 rfl D.heap.size 3 ei (.int .i64 0) 1 8 underlying32 en eo ep eq rfl (by decide) _ _ _ rfl (ds.alloc _) ⟨gc.heap.size,0,none⟩ 1 1 [.int .i64 aI] rfl rfl ?c1 ?c2 (by decide) ?c3 ?c4 ?c5 _ rfl ?_)
       case c1=>exact ge (af rfl)
       case c2=>exact BL _
       case c3=>unfold maxLen;omega
       case c4=>omega
       case c5=>have:=gb;first|(simp;omega)|omega
       intro gf gg b4 aJ V b5 _;have gi:=ab aJ;have b6:Hid (Below D.heap.size D b4):=(a5.alloc a5.size _).grown V (by simp;have:=a5.size;omega) (fun z e=>(ds.lt z e).1);clear aJ V b5;go_wp2;go_roundg bF
       case measure=>simp
       case rel=>exact⟨c+1,by omega,by go_num,by rw[U fy];simpa [aE]using U gi,b6⟩
     ·have fp:decide (c<d.length)=false:=by simp;omega
      have dw:c=d.length:=by omega
      have gl:(im T a.ss x hz).length=c:=by unfold im;rw[Jm,dw];exact ci.symm
      rw[JJ (by omega)]at a4;have gm:Hid (wr.ownsRow j.heap.size 3 1 (.slice bx c bz) (im T a.ss x hz).length (aE (im T a.ss x hz))):=by unfold Hid;rw[gl];refine⟨a4.1,a4.2.imp id (fun⟨gn,G,gq,A,ar,r⟩=>⟨gn,G,gq,A,Jt B.size ar,r⟩)⟩
      have a9:=ab (bq.keep R);have hk:au.length<=k:=by have A:=a9.len;rw[Jm,JU]at A;omega
      have hl:=R.size;have hm:=Q.size;clear dw;go_wp2_with (at_builtin;refine JT _ rfl _ _ 42 rfl j.heap.size 32 er (.slice none 0 0) 1 24 underlying42 es et ev ex rfl (by decide) _ _ _ rfl (a9.own.alloc _) ⟨wr.heap.size,0,none⟩ 1 1 [.slice bx c bz] rfl rfl ?c1 ?c2 (by decide) ?c3 ?c4 ?c5 _ rfl ?_)
      case c1=>exact ge (af rfl)
      case c2=>first|exact kL _ _ _|rfl
      case c3=>unfold maxLen;omega
      case c4=>omega
      case c5=>simp;omega
      intro gf gg b4 aJ V b5 _;have b7:Below wr.heap.size wr (wr.alloc (.cells #[.slice bx c bz] 32)):=(Jj _ _).alloc (Ji _) _;have gr:=ab ((a9.keep b7).snoc (l:=im T a.ss x hz) (dJ gm b7) aJ V);have b6:Hid (Below j.heap.size j b4):=(Q.alloc Q.size _).grown V (by simp;have:=Q.size;omega) (fun z e=>(a9.own.lt z e).1);clear aJ V b5 b7;go_wp2;go_roundg br
      case measure=>simp
      case rel=>exact⟨k+1,_,by omega,by go_num,by rw[U e'];exact U gr,b6⟩
   ·have e4:decide (k<us.length)=false:=by simp;omega
    have gs:Hid ((dK T a.ss x g).take k=dK T a.ss x g):=by have:=a1.len;rw[Jm]at this;exact JJ (by omega)
    rw[U gs]at bq;go_wp2;refine Jr (v:=.tuple #[.slice e1 au.length e2,.bool true]) (by simp[results,results88,go_sem]) rfl ⟨U e3,fun bk=>by omega,fun _=>⟨_,au,rfl,bq.lower M.size⟩⟩
end
end Go.Proofs.YtfkeddkfegaeiaaGreatDoor
