import Derived.Test.YtfkeddkfegaeiaaGreatDoorPnNwN
set_option maxRecDepth 100000
set_option maxHeartbeats 20000000
namespace Go.Proofs.YtfkeddkfegaeiaaGreatDoor
section
open Go.RowKit Tryz
structure D0(p:Nat)(tv cv rv lv:Value):Prop where
 tc:gK tv cv
 tr:gK tv rv
 tl:gK tv lv
 cr:gK cv rv
 cl:gK cv lv
 rl:gK rv lv
 pt:tv.ownBlock≠some p
 pc:cv.ownBlock≠some p
 pr:rv.ownBlock≠some p
 pl:lv.ownBlock≠some p
theorem aZ.apt{lo p:Nat}{F:Fx}{xs:List Value}{c d e f:Value}{W:World}(b:aZ lo F p (xs++[c,d,e,f]) W):D0 p c d e f:=by
 have g:=(LD.1 b.dis).2.1;simp only[Ka,JG,JO,Kg,LU,MI]at g;obtain⟨⟨h,i,j⟩,⟨k,l⟩,m,_⟩:=g;refine⟨h,i,j,k,l,m,fun a=>?_,fun a=>?_,fun a=>?_,fun a=>?_⟩
 ·exact(b.off c (by simp) p a).2.1 rfl
 ·exact(b.off d (by simp) p a).2.1 rfl
 ·exact(b.off e (by simp) p a).2.1 rfl
 ·exact(b.off f (by simp) p a).2.1 rfl
structure fN(lo p:Nat)(W:World)(tv cv rv lv:Value)(nt nc nr nl:Nat)(ts cs rs ls:List Value):Prop where
 box:W.heap[p]? =some (.cells #[tv,cv,rv,lv] 125 (0,0))
 tab:W.ownsRow lo 44 3 tv nt ts
 col:W.ownsRow lo 39 1 cv nc cs
 row:W.ownsRow lo 42 1 rv nr rs
 lst:W.ownsRow lo 32 1 lv nl ls
section
variable {lo p nt nc nr nl : Nat} {W W' : World} {tv cv rv lv : Value} {ts cs rs ls : List Value}
theorem fN.below(a:fN lo p W tv cv rv lv nt nc nr nl ts cs rs ls)(b:Below W.heap.size W W'):fN lo p W' tv cv rv lv nt nc nr nl ts cs rs ls:=
 ⟨by rw[b.block p (aa a.box)];exact a.box,dG a.tab b,dG a.col b,dG a.row b,dG a.lst b⟩
theorem fN.drew(a:fN lo p W tv cv rv lv nt nc nr nl ts cs rs ls):fN lo p W.drew tv cv rv lv nt nc nr nl ts cs rs ls:=⟨a.box,a.tab,a.col,a.row,a.lst⟩
theorem fN.alloc(a:fN lo p W tv cv rv lv nt nc nr nl ts cs rs ls)(o:Obj):fN lo p (W.alloc o) tv cv rv lv nt nc nr nl ts cs rs ls:=
 a.below ((Jj _ _).alloc (Ji _) _)
theorem fN.grown{x:Value}(a:fN lo p W tv cv rv lv nt nc nr nl ts cs rs ls)(b:W.grownBy W' x.ownBlock)(c:x.ownBlock≠some p)(d:gK x tv)(f:gK x cv)(g:gK x rv)(h:gK x lv):fN lo p W' tv cv rv lv nt nc nr nl ts cs rs ls:=
 ⟨by rw[b.block p (aa a.box) (fun e=>c e.symm)];exact a.box,cC a.tab d b,cC a.col f b,cC a.row g b,cC a.lst h b⟩
theorem fN.setTab{v':Value}{d:Nat}{e:List Value}(b:fN lo p W tv cv rv lv nt nc nr nl ts cs rs ls)(a:D0 p tv cv rv lv)(c:W.grownBy W' tv.ownBlock)(f:W'.ownsRow lo 44 3 v' d e)(g:v'.ownBlock≠some p):
  fN lo p (W'.setCell ⟨p,0,none⟩ v') v' cv rv lv d nc nr nl e cs rs ls:=by
 have h:=(c.block p (aa b.box) (fun i=>a.pt i.symm)).trans b.box;exact⟨by rw[am h];rfl,bD f g,bD (cC b.col a.tc c) a.pc,bD (cC b.row a.tr c) a.pr,bD (cC b.lst a.tl c) a.pl⟩
theorem fN.setCol{v':Value}{d:Nat}{e:List Value}(b:fN lo p W tv cv rv lv nt nc nr nl ts cs rs ls)(a:D0 p tv cv rv lv)(c:W.grownBy W' cv.ownBlock)(f:W'.ownsRow lo 39 1 v' d e)(g:v'.ownBlock≠some p):
  fN lo p (W'.setCell ⟨p,1,none⟩ v') tv v' rv lv nt d nr nl ts e rs ls:=by
 have h:=(c.block p (aa b.box) (fun i=>a.pc i.symm)).trans b.box;exact⟨by rw[am h];rfl,bD (cC b.tab a.tc.symm c) a.pt,bD f g,bD (cC b.row a.cr c) a.pr,bD (cC b.lst a.cl c) a.pl⟩
theorem fN.setRow{v':Value}{d:Nat}{e:List Value}(b:fN lo p W tv cv rv lv nt nc nr nl ts cs rs ls)(a:D0 p tv cv rv lv)(c:W.grownBy W' rv.ownBlock)(f:W'.ownsRow lo 42 1 v' d e)(g:v'.ownBlock≠some p):
  fN lo p (W'.setCell ⟨p,2,none⟩ v') tv cv v' lv nt nc d nl ts cs e ls:=by
 have h:=(c.block p (aa b.box) (fun i=>a.pr i.symm)).trans b.box;exact⟨by rw[am h];rfl,bD (cC b.tab a.tr.symm c) a.pt,bD (cC b.col a.cr.symm c) a.pc,bD f g,bD (cC b.lst a.rl c) a.pl⟩
theorem fN.setLst{v':Value}{d:Nat}{e:List Value}(b:fN lo p W tv cv rv lv nt nc nr nl ts cs rs ls)(a:D0 p tv cv rv lv)(c:W.grownBy W' lv.ownBlock)(f:W'.ownsRow lo 32 1 v' d e)(g:v'.ownBlock≠some p):
  fN lo p (W'.setCell ⟨p,3,none⟩ v') tv cv rv v' nt nc nr d ts cs rs e:=by
 have h:=(c.block p (aa b.box) (fun i=>a.pl i.symm)).trans b.box;exact⟨by rw[am h];rfl,bD (cC b.tab a.tl.symm c) a.pt,bD (cC b.col a.cl.symm c) a.pc,bD (cC b.row a.rl.symm c) a.pr,bD f g⟩
end
def kW:Nat->List Value
 |0=>[]
 |n+1=>kW n++[.string ie,.slice none 0 0,.slice none 0 0]
structure vY(l:List Tb):Prop where
 len:l.length<=1048576
 nrows:nrows l<=1048576
 cols: ∀t∈l,t.cols.length<=1048576
 rows: ∀t∈l,t.rows.length<=1048576
 row: ∀t∈l,∀r∈t.rows,r.length<=1048576
theorem Gc(a:ByteArray)(d:Option Addr)(n c:Nat)(e:Option Addr)(f g:Nat): ∀u∈ [Value.string a,Value.slice d n c,Value.slice e f g],u.oneCell'=true:=by intro u b;simp only[JG,JO,Kg]at b;rcases b with rfl|rfl|rfl<;>rfl
theorem D1:(prog.info? 39).map (fun i=>(i.zero,i.size,i.bytes))=some (some (.slice none 0 0),1,24):=by kernel_rfl
theorem FO:(prog.info? 42).map (fun i=>(i.zero,i.size,i.bytes))=some (some (.slice none 0 0),1,24):=by kernel_rfl
theorem yY(ds:Value)(l:List Tb)(w:World)(dw:bp w ds l)(dT:vY l):
  Calls prog 46 #[ds] w fun e w'=> ∃p F r P m A ts cs rs Q,e=.returned (.pointer (some ⟨p,0,none⟩))/\w.heap.size<=p/\LTabs F l ts cs rs Q/\fN w.heap.size p w' r P m A (l.length+8) l.length l.length (nrows l) (ts++kW 8) cs rs Q/\aZ w.heap.size F p [r,P,m,A] w'/\Below w.heap.size w w':=by
 have aL:=ab dT;clear dT;have hT:=ab dw;obtain⟨hV,hW,rfl,fr,hX,d'⟩:=dw;unfold maxLen at fr;have fs:=ab d';clear d';obtain⟨ea,E,G⟩:=Jq.1 AK;simp only[JB]at G;obtain⟨H,I,J⟩:=G;obtain⟨eb,ed,ef,eg⟩:=aP E H I J;clear E H I J;obtain⟨ft,E,G⟩:=Jq.1 D1;simp only[JB]at G;obtain⟨H,I,J⟩:=G;obtain⟨fv,fw,fx,fy⟩:=aP E H I J;clear E H I J;obtain⟨fz,E,G⟩:=Jq.1 FO;simp only[JB]at G;obtain⟨H,I,J⟩:=G;obtain⟨fO,f',ga,gb⟩:=aP E H I J;clear E H I J;obtain⟨b9,E,G⟩:=Jq.1 jS;simp only[JB]at G;obtain⟨H,I,J⟩:=G;obtain⟨b',ca,cb,cc⟩:=aP E H I J;clear E H I J;go_enter func46,ntmps46;go_wp2_with fail
 go_loopg [4] l.length (fun i gc h=> ∃a W F r P m A ts cs rs Q,l=a++W/\i=W.length/\gc=.int .i64 (a.length:Nat)/\LTabs F a ts cs rs Q/\fN w.heap.size w.heap.size h r P m A a.length a.length a.length (nrows a) ts cs rs Q/\aZ w.heap.size F w.heap.size [r,P,m,A] h/\Below w.heap.size w h)
 case atStart=>refine⟨[],l,fun _=>none,.slice none 0 0,.slice none 0 0,.slice none 0 0,.slice none 0 0,[],[],[],[],rfl,rfl,rfl,.nil,⟨af rfl,JF _ _ _ _,JF _ _ _ _,JF _ _ _ _,JF _ _ _ _⟩,?_,(Jj _ _).alloc (Ji _) _⟩;refine aZ.add (aZ.add (aZ.add (aZ.add ⟨fun b o e=>(by simp at e),rfl,by simp,fun u n=>(by simp at n),List.Pairwise.nil⟩ 0 0) 0 0) 0 0) 0 0
 case round=>
  obtain⟨a,W,F,r,P,m,A,ts,cs,rs,Q,ap,rfl,rfl,X,K,v,L⟩:=hrel;have ei:a.length+W.length=l.length:=by rw[ap,Jk]
  obtain⟨aN,en,R,B,M⟩:=dD ap X K v L;clear ap X K v L;have eo:=B.ltp;have hY:=aL.len
  cases W with
  |nil=>
   have X:decide (a.length<l.length)=false:=by simp at ei⊢;omega
   go_wp2_with fail;clear X;obtain rfl:l=a:=by rw[U aN,JD]
   go_loopg [11] 8 (fun i k h=> ∃bA,i<=8/\k=.int .i64 ((8-i:Nat):Int)/\fN w.heap.size w.heap.size h bA P m A (l.length+(8-i)) l.length l.length (nrows l) (ts++kW (8-i)) cs rs Q/\aZ w.heap.size F w.heap.size [bA,P,m,A] h/\Below w.heap.size w h)
   case atStart=>refine⟨r,Ji _,rfl,?_,B,M⟩;rw[show ts++kW (8-8)=ts from JD _];exact R
   case round=>
    clear R B M eo;obtain⟨bA,gf,rfl,K,v,L⟩:=hrel;obtain⟨R,B,M⟩:=aC K v L;clear K v L;have eo:=B.ltp
    cases gk with
    |succ i=>
     obtain⟨gg,gi,rfl⟩:=dB R.tab;have cd:8-(i+1)<8:=by omega
     have a4:8-(i+1)+1=8-i:=by omega
     generalize 8-(i+1)=N at*;have bF:decide (N<8)=true:=by simpa using cd
     have aR:=ab a4;clear a4;obtain⟨ar,au⟩:=blk R.box;go_wp2_with (at_builtin;refine JT _ rfl _ _ 84 rfl w.heap.size 44 ea (.agg #[.string ⟨#[]⟩,.slice none 0 0,.slice none 0 0]) 3 64 underlying84 eb ed ef eg rfl (by decide) _ _ _ rfl (R.tab.alloc _) ⟨wr.heap.size,0,none⟩ 1 1 [.string ie,.slice none 0 0,.slice none 0 0] rfl rfl ?c1 ?c2 (by decide) ?c3 ?c4 ?c5 _ rfl ?_)
     case c1=>exact KR (cs:= #[.string ie,.slice none 0 0,.slice none 0 0]) (af rfl)
     case c2=>exact Gc _ _ _ _ _ _ _
     case c3=>unfold maxLen;omega
     case c4=>omega
     case c5=>simp;omega
     intro O av gl s f t ce;obtain⟨y,a5⟩:=ag (aZ.apt (xs:=[]) (B.alloc (.cells #[.string ie,.slice none 0 0,.slice none 0 0] 44))) (aZ.app (vs1:=[]) (vs2:=[P,m,A]) (v':=.slice (some ⟨O,0,none⟩) (l.length+N+1) av) (B.alloc _) (by simp;omega) f rfl (t.imp id (fun e=>by rw[e];simp)) ce);have cf:O≠w.heap.size:=(a5.off (.slice (some ⟨O,0,none⟩) (l.length+N+1) av) (by simp) O rfl).2.1;obtain⟨cg,ch,aT⟩:=aC ((R.alloc _).setTab y f s (by simp[Value.ownBlock];exact cf)) ((M.alloc (by omega) _).grown f (by simp;omega) (fun k g=>(B.off (.slice gg (l.length+N) gi) (by simp) k g).2.2.1)) ((f.block w.heap.size (by simp;omega) (fun g=>y.pt g.symm)).trans (ai R.box));obtain⟨gm,gn⟩:=blk aT;have gq:=aa aT;clear s f t ar au;go_wp2;go_roundg i
     case measure=>simp
     case rel=>
      refine⟨.slice (some ⟨O,0,none⟩) (l.length+N+1) av,by omega,?_,?_,a5.box _ _,ch.setCell (Ji _) _⟩
      ·rw[<-U aR];go_num
      ·rw[<-U aR,kW];exact cg
    |zero=>
     have bF:decide (8-0<8)=false:=by decide
     go_wp2;go_ret;exact⟨w.heap.size,F,bA,P,m,A,ts,cs,rs,Q,rfl,Ji _,en,R,B,M⟩
  |cons c W=>
   rw[Ju]at ei;have X:decide (a.length<l.length)=true:=by simp;omega
   obtain⟨ax,aU,rfl,ci,c1⟩:=(U fs) (by omega)
   obtain⟨hZ,h0,gr,a9,a',cj⟩:=c1 a.length c (by rw[U aN];simp);have gs:Hid (l=(a++[c])++W):=by unfold Hid;rw[U aN];simp
   have bG:c∈l:=by rw[U aN];simp
   have h1:=aL.cols c bG;have h2:=aL.rows c bG;have gt:=ab (aL.row c bG);obtain⟨h3,h4,g,ep,gw,eq⟩:=gr;injection g with _ g;injection g with gy g;injection g with gJ _;subst gy gJ;obtain⟨er,es⟩:=ag ep eq;obtain⟨gQ,gW,rfl,g0,g1⟩:=ep;obtain⟨ba,⟨g2,g3,rfl,g4,g6⟩,bb,g7⟩:=eq;clear g1 g6 g7 g0 g4 gw bG c1;rw[bb]at es cj;rw[Jm]at er a';clear bb ba
   have bJ:Hid (∀h,Below w.heap.size w h->h.cell? ⟨ax,aU+a.length*3,none⟩=some (.string c.name)/\h.cell? ⟨ax,aU+a.length*3+1,none⟩=some (.slice gQ c.cols.length gW)/\h.cell? ⟨ax,aU+a.length*3+2,none⟩=some (.slice g2 c.rows.length g3)):=fun h bc=>⟨(bc.cell (p:=⟨ax,aU+a.length*3,none⟩) ci).trans a9,(bc.cell (p:=⟨ax,aU+a.length*3+1,none⟩) ci).trans a',(bc.cell (p:=⟨ax,aU+a.length*3+2,none⟩) ci).trans cj⟩
   clear a9 a' cj;obtain⟨_,a',_⟩:=(U bJ) _ M;go_wp2_with fail;refine(pC _ c.cols _ (by exact er.keep M) (by omega)).mono ?_;rintro e g8 ⟨z,rfl,g9,et,bL⟩;obtain⟨bN,g'⟩:=ag ((B.below bL).fix (by have:=M.size;omega) et (by omega) (fun u n e=>by have:=(B.off u n z e).2.2.2;omega)) (Fx.le_set (.cells (aB (c.cols++List.replicate 8 ⟨#[98,101,121,111,110,100]⟩)).toArray 9 (0,0)) (B.noneF g9));have ev:Hid (xL (F.set z (.cells (aB (c.cols++List.replicate 8 ⟨#[98,101,121,111,110,100]⟩)).toArray 9 (0,0))) z c.cols):=Fx.set_same _ _ _;generalize F.set z (.cells (aB (c.cols++List.replicate 8 ⟨#[98,101,121,111,110,100]⟩)).toArray 9 (0,0))=ex at*;obtain⟨ay,ez⟩:=ag (R.below bL) (M.trans (bL.mono M.size));obtain⟨ar,au⟩:=blk ay.box;have eN:=aa ay.box;have h5:=M.size;clear et bL a';obtain⟨ha,hb,rfl⟩:=dB ay.col;go_wp2_with (at_builtin;refine JT _ rfl _ _ 122 rfl w.heap.size 39 ft (.slice none 0 0) 1 24 underlying122 fv fw fx fy rfl (by decide) _ _ _ rfl (ay.col.alloc _) ⟨g8.heap.size,0,none⟩ 1 1 [.slice (some ⟨z,0,none⟩) (c.cols.length+8) (c.cols.length+8)] rfl rfl ?c1 ?c2 (by decide) ?c3 ?c4 ?c5 _ rfl ?_)
   case c1=>exact ge (af rfl)
   case c2=>exact kL _ _ _
   case c3=>unfold maxLen;omega
   case c4=>omega
   case c5=>simp;omega
   intro ak aV hc s f t hd;obtain⟨y,cl⟩:=ag (aZ.apt (xs:=[]) (bN.alloc (.cells #[.slice (some ⟨z,0,none⟩) (c.cols.length+8) (c.cols.length+8)] 39))) (aZ.app (vs1:=[r]) (vs2:=[m,A]) (v':=.slice (some ⟨ak,0,none⟩) (a.length+1) aV) (bN.alloc _) (by simp;omega) f rfl (t.imp id (fun e=>by rw[e];simp)) hd);have be:ak≠w.heap.size:=(cl.off (.slice (some ⟨ak,0,none⟩) (a.length+1) aV) (by simp) ak rfl).2.1;obtain⟨eR,eT,cp⟩:=aC ((ay.alloc _).setCol y f s (by simp[Value.ownBlock];exact be)) ((ez.alloc (by omega) _).grown f (by simp;omega) (fun k g=>(bN.off (.slice ha a.length hb) (by simp) k g).2.2.1)) ((f.block w.heap.size (by simp;omega) (fun g=>y.pc g.symm)).trans (ai ay.box));obtain⟨he,hf⟩:=blk cp;have hg:=aa cp;clear ar au s f t;obtain⟨eX,e0⟩:=ag (cl.box 1 (.slice (some ⟨ak,0,none⟩) (a.length+1) aV)) (eT.setCell (p:=⟨w.heap.size,1,none⟩) (Ji _) (.slice (some ⟨ak,0,none⟩) (a.length+1) aV));go_wp2_with fail;clear he hf hg eN cp cl eT ay bN ez y;generalize hc.setCell ⟨w.heap.size,1,none⟩ (.slice (some ⟨ak,0,none⟩) (a.length+1) aV)=h6 at*;generalize h7:Value.slice (some ⟨ak,0,none⟩) (a.length+1) aV=S at*;clear X
   go_loopg [6,7] c.rows.length (fun i x k h=> ∃d Y al Z bg bk,c.rows=d++Y/\i=Y.length/\k=.int .i64 (d.length:Nat)/\ex.le al/\iz al d bg bk/\h.ownsRow w.heap.size 32 1 x d.length bg/\fN w.heap.size w.heap.size h r S m Z a.length (a.length+1) a.length (nrows a+d.length) ts (cs++[.slice (some ⟨z,0,none⟩) (c.cols.length+8) (c.cols.length+8)]) rs (Q++bk)/\aZ w.heap.size al w.heap.size [x,r,S,m,Z] h/\Below w.heap.size w h)
   case atStart=>refine⟨[],c.rows,ex,A,[],[],rfl,rfl,rfl,Fx.le.refl _,.nil,JF _ _ _ _,?_,eX.add 0 0,e0⟩;rw[JD];exact eR
   case round=>
    clear eX e0 eR;obtain⟨d,Y,al,Z,bg,bk,ap,rfl,rfl,e1,e2,bl,K,v,L⟩:=hrel;have e3:d.length+Y.length=c.rows.length:=by rw[ap,Jk]
    obtain⟨bn,cq,cr,T,C,q,D⟩:=sq ap e1 e2 bl K v L;clear ap e1 e2 bl K v L;obtain⟨bq,br,bs⟩:=(U bJ) _ D
    cases Y with
    |cons j Y=>
     rw[Ju]at e3;have X:decide (d.length<c.rows.length)=true:=by simp;omega
     obtain⟨ba,⟨h8,h9,ct,hh,cu⟩,bb,e4⟩:=U es;injection ct with ct hi hj;subst ct hj;rw[bb]at cu;obtain⟨bS,cv,rfl,hk,e5⟩:=cu (by omega)
     obtain⟨cz,bX⟩: ∃cz,ba[d.length]? =some cz:=⟨ba[d.length]'(by omega),Jl _⟩
     have e6:=e4 d.length j cz (by rw[U bn];simp) bX;have e7:=ab e6;obtain⟨e8,e9,rfl,hl,hm⟩:=e6;rw[Jm]at bX e7;have a9:w.cell? ⟨bS,cv+d.length,none⟩=some (.slice e8 j.length e9):=by rw[e5 _ (by omega),bX]
     have e':Hid (∀h,Below w.heap.size w h->h.cell? ⟨bS,cv+d.length,none⟩=some (.slice e8 j.length e9)):=fun h bc=>(bc.cell (p:=⟨bS,cv+d.length,none⟩) hk).trans a9;clear hh hi hl hm bX e4 cu e5 bb a9;have cF:=(U e') _ D;have hn:Hid (c.rows=(d++[j])++Y):=by unfold Hid;rw[U bn];simp
     have h':=(U gt) j (by rw[U bn];simp);have ho:nrows a+c.rows.length<=1048576:=by have:=aL.nrows;rw[U aN,gD]at this;simp only[nrows]at this;omega
     clear ba;go_wp2_with fail;refine(pX _ j _ (by exact e7.keep D) (by omega)).mono ?_;rintro e hp ⟨an,rfl,v,fa,bt⟩;obtain⟨b0,aA⟩:=ag ((q.below bt).fix (by have:=D.size;omega) fa (by have:=q.ltp;omega) (fun u n e=>by have:=(q.off u n an e).2.2.2;omega)) (Fx.le_set (.cells (aE (j++List.replicate 8 (-77))).toArray 3 (0,0)) (q.noneF v));have hq:Hid (sS (al.set an (.cells (aE (j++List.replicate 8 (-77))).toArray 3 (0,0))) an j):=Fx.set_same _ _ _;generalize al.set an (.cells (aE (j++List.replicate 8 (-77))).toArray 3 (0,0))=V at*;obtain⟨aI,cI,hr⟩:=aC (C.below bt) (dG T bt) (D.trans (bt.mono D.size));clear fa bt cF bq br bs C T;obtain⟨fb,fc,rfl⟩:=dB aI.lst;obtain⟨a0,a1,rfl⟩:=dB cI;obtain⟨ar,au⟩:=blk aI.box;have eN:=aa aI.box;go_wp2_with (at_builtin;refine JT _ rfl _ _ 42 rfl w.heap.size 32 b9 (.slice none 0 0) 1 24 underlying42 b' ca cb cc rfl (by decide) _ _ _ rfl (aI.lst.alloc _) ⟨hp.heap.size,0,none⟩ 1 1 [.slice (some ⟨an,0,none⟩) (j.length+8) (j.length+8)] rfl rfl ?c1 ?c2 (by decide) ?c3 ?c4 ?c5 _ rfl ?_)
     case c1=>exact ge (af rfl)
     case c2=>exact kL _ _ _
     case c3=>unfold maxLen;omega
     case c4=>omega
     case c5=>simp;omega
     intro ac aJ hs s f t ht;obtain⟨cL,ad⟩:=ag (aZ.apt (xs:=[.slice a0 d.length a1]) (b0.alloc (.cells #[.slice (some ⟨an,0,none⟩) (j.length+8) (j.length+8)] 32))) (aZ.app (vs1:=[.slice a0 d.length a1,r,S,m]) (vs2:=[]) (v':=.slice (some ⟨ac,0,none⟩) (nrows a+d.length+1) aJ) (b0.alloc _) (by simp;omega) f rfl (t.imp id (fun e=>by rw[e];simp)) ht);have be:ac≠w.heap.size:=(ad.off (.slice (some ⟨ac,0,none⟩) (nrows a+d.length+1) aJ) (by simp) ac rfl).2.1;have b1:(Value.slice a0 d.length a1).ownBlock≠some w.heap.size:=fun e=>(ad.off (.slice a0 d.length a1) (by simp) _ e).2.1 rfl;obtain⟨hu,hv⟩:=ag ((Ka.1 b0.dis).1) ((aI.alloc _).setLst cL f s (by simp[Value.ownBlock];exact be));obtain⟨hw,b2,cN⟩:=aC (bD (off:=3) (x:=.slice (some ⟨ac,0,none⟩) (nrows a+d.length+1) aJ) (cC (cI.alloc _) (hu (.slice fb (nrows a+d.length) fc) (by simp)).symm f) b1) ((hr.alloc (by omega) _).grown f (by simp;omega) (fun k g=>(b0.off (.slice fb (nrows a+d.length) fc) (by simp) k g).2.2.1)) ((f.block w.heap.size (by simp;omega) (fun g=>cL.pl g.symm)).trans (ai aI.box));obtain⟨hx,hy⟩:=blk cN;have ic:=aa cN;obtain⟨bq,br,bs⟩:=(U bJ) _ b2;have cF:=(U e') _ b2;have ih:ax≠w.heap.size:=by omega
     have ik:bS≠w.heap.size:=by omega
     obtain⟨cR,hz⟩:=ag (ad.box 3 (.slice (some ⟨ac,0,none⟩) (nrows a+d.length+1) aJ)) (b2.setCell (p:=⟨w.heap.size,3,none⟩) (Ji _) (.slice (some ⟨ac,0,none⟩) (nrows a+d.length+1) aJ));clear ar au s f t aI cI cN ad b2 cL;have il:j.length<=j.length+8:=by omega
     go_wp2_with (at_builtin;refine JT _ rfl _ _ 42 rfl w.heap.size 32 b9 (.slice none 0 0) 1 24 underlying42 b' ca cb cc rfl (by decide) _ _ _ rfl (hw.alloc _) ⟨hs.heap.size,0,none⟩ 1 1 [.slice (some ⟨an,0,none⟩) j.length (j.length+8)] rfl rfl ?c1 ?c2 (by decide) ?c3 ?c4 ?c5 _ rfl ?_)
     case c1=>exact ge (af (by simp))
     case c2=>exact kL _ _ _
     case c3=>unfold maxLen;omega
     case c4=>omega
     case c5=>simp;omega
     intro cT cV hA bu ae bv cW;obtain⟨cZ,aj⟩:=ag (aZ.app (vs1:=[]) (vs2:=[r,S,m,.slice (some ⟨ac,0,none⟩) (nrows a+d.length+1) aJ]) (v':=.slice (some ⟨cT,0,none⟩) (d.length+1) cV) (cR.alloc _) (by simp;omega) ae rfl (bv.imp id (fun e=>by rw[e];simp)) cW) ((Ka.1 cR.dis).1);obtain⟨c0,c6,c7⟩:=aC ((hv.alloc _).grown ae b1 (aj _ (by simp)) (aj _ (by simp)) (aj _ (by simp)) (aj _ (by simp))) ((hz.alloc (by simp;omega) _).grown ae (by simp;omega) (fun k g=>(cR.off (.slice a0 d.length a1) (by simp) k g).2.2.1)) bu;clear bu ae bv hx hy bq br bs cF;go_wp2;go_roundg Y.length
     case measure=>simp
     case rel=>
      refine⟨d++[j],Y,V,.slice (some ⟨ac,0,none⟩) (nrows a+d.length+1) aJ,_,_,hn,rfl,?_,cq.trans aA,.snoc j an (cr.mono aA) hq,?_,?_,cZ,c6⟩
      ·rw[Jk];go_num
      ·rw[Jk];exact c7
      ·rw[Jk];exact c0
    |nil=>
     obtain⟨a0,a1,rfl⟩:=dB T;obtain rfl:d=c.rows:=by rw[U bn,JD]
     have X:decide (c.rows.length<c.rows.length)=false:=by simp
     clear bn e3;have ho:nrows a+c.rows.length<=1048576:=by have:=aL.nrows;rw[U aN,gD]at this;simp only[nrows]at this;omega
     go_wp2_with fail;clear X bq br bs
     go_loopg [6,10] 8 (fun i x k h=> ∃V a2,i<=8/\k=.int .i64 ((8-i:Nat):Int)/\al.le V/\a2.length=8-i/\(∀u∈a2,rX V u)/\h.ownsRow w.heap.size 32 1 x (c.rows.length+(8-i)) (bg++a2)/\fN w.heap.size w.heap.size h r S m Z a.length (a.length+1) a.length (nrows a+c.rows.length) ts (cs++[.slice (some ⟨z,0,none⟩) (c.cols.length+8) (c.cols.length+8)]) rs (Q++bk)/\aZ w.heap.size V w.heap.size [x,r,S,m,Z] h/\Below w.heap.size w h)
     case atStart=>refine⟨al,[],Ji _,rfl,Fx.le.refl _,rfl,fun u n=>(by simp at n),?_,C,q,D⟩;rw[JD];exact T
     case round=>
      clear T C q D;obtain⟨V,a2,gf,rfl,fe,fg,fk,bl,K,v,L⟩:=hrel;obtain⟨aA,c8,c9,T,C,q,D⟩:=sq fe fg fk bl K v L;have ip:=q.ltp;clear fe fg fk bl K v L
      cases gk with
      |succ i=>
       obtain⟨c',dd,rfl⟩:=dB T;have cd:8-(i+1)<8:=by omega
       have a4:8-(i+1)+1=8-i:=by omega
       generalize 8-(i+1)=N at*;have bF:decide (N<8)=true:=by simpa using cd
       have aR:=ab a4;clear a4;go_wp2_with (at_builtin;refine JT _ rfl _ _ 42 rfl w.heap.size 32 b9 (.slice none 0 0) 1 24 underlying42 b' ca cb cc rfl (by decide) _ _ _ rfl ((T.alloc _).alloc _) ⟨wr.heap.size+1,0,none⟩ 1 1 [.slice (some ⟨wr.heap.size,0,none⟩) 1 1] rfl rfl ?c1 ?c2 (by decide) ?c3 ?c4 ?c5 _ rfl ?_)
       case c1=>exact ge (af (by simp))
       case c2=>exact kL _ _ _
       case c3=>unfold maxLen;omega
       case c4=>omega
       case c5=>simp;omega
       intro cT cV hA bu ae bv cW;obtain⟨hB,fl⟩:=ag ((q.alloc (.cells #[.int .i64 (-77)] 3)).fix (b:=wr.heap.size) (o:=.cells #[.int .i64 (-77)] 3 (0,0)) (by omega) (af rfl) (by omega) (fun u n e=>by have:=(q.off u n _ e).2.2.2;omega)) (Fx.le_set (.cells #[.int .i64 (-77)] 3 (0,0)) (q.noneF (Ji _)))
       have hC:Hid (rX (V.set wr.heap.size (.cells #[.int .i64 (-77)] 3 (0,0))) (.slice (some ⟨wr.heap.size,0,none⟩) 1 1)):=⟨_,rfl,Fx.set_same _ _ _⟩
       generalize V.set wr.heap.size (.cells #[.int .i64 (-77)] 3 (0,0))=hD at*;have b1:(Value.slice c' (c.rows.length+N) dd).ownBlock≠some w.heap.size:=fun e=>(q.off (.slice c' (c.rows.length+N) dd) (by simp) _ e).2.1 rfl;obtain⟨cZ,aj⟩:=ag (aZ.app (vs1:=[]) (vs2:=[r,S,m,Z]) (v':=.slice (some ⟨cT,0,none⟩) (c.rows.length+N+1) cV) (hB.alloc _) (by simp;omega) ae rfl (bv.imp id (fun e=>by rw[e];simp)) cW) ((Ka.1 q.dis).1);obtain⟨c0,c6,c7⟩:=aC (((C.alloc _).alloc _).grown ae b1 (aj _ (by simp)) (aj _ (by simp)) (aj _ (by simp)) (aj _ (by simp))) (((D.alloc (by omega) _).alloc (by simp;omega) _).grown ae (by simp;omega) (fun k g=>(q.off (.slice c' (c.rows.length+N) dd) (by simp) k g).2.2.1)) bu;clear bu ae bv;go_wp2;go_roundg i
       case measure=>simp
       case rel=>
        refine⟨hD,a2++[.slice (some ⟨wr.heap.size,0,none⟩) 1 1],by omega,?_,aA.trans fl,?_,fun u n=>?_,?_,c0,cZ,c6⟩
        ·rw[<-U aR];go_num
        ·rw[Jk,c8,<-U aR];rfl
        ·rcases JW.1 n with n|n
         ·exact(c9 u n).mono fl
         ·rw[JN]at n;rw[n];exact hC
        ·rw[<-U aR,<-MA];exact c7
      |zero=>
       have bF:decide (8-0<8)=false:=by decide
       obtain⟨hE,hF⟩:=U T;rcases hF with⟨_,hn0⟩|⟨gx,capx,cur,rfl,hge,hhx,hlex,hcapx,hszx,htk⟩
       ·omega
       rw[Lb]at htk;have ad:=ab (q.seal rfl hhx);have bx:=Fx.le_set (.cells cur 32 (0,0)) ((q.off (.slice (some ⟨gx,0,none⟩) (c.rows.length+(8-0)) capx) (by simp) gx rfl).1)
       have hG:Hid (pY (V.set gx (.cells cur 32 (0,0))) c z gx capx cur bk):=
        ⟨bx _ _ (aA _ _ (cq _ _ ev)),Fx.set_same _ _ _,bg,a2,cr.mono (aA.trans bx),c8,fun u n=>(c9 u n).mono bx,htk⟩
       have hH:=ab ((((g'.trans cq).trans aA)).trans bx);generalize V.set gx (.cells cur 32 (0,0))=hI at*;clear hE hge hhx hszx htk bx T q ev cr c9 c8;unfold maxLen at hcapx;have iq:c.rows.length<=capx:=by omega
       obtain⟨hJ,hK,rfl⟩:=dB C.row;obtain⟨ar,au⟩:=blk C.box;go_wp2_with (at_builtin;refine JT _ rfl _ _ 123 rfl w.heap.size 42 fz (.slice none 0 0) 1 24 underlying123 fO f' ga gb rfl (by decide) _ _ _ rfl (C.row.alloc _) ⟨wr.heap.size,0,none⟩ 1 1 [.slice (some ⟨gx,0,none⟩) (c.rows.length+8) capx] rfl rfl ?c1 ?c2 (by decide) ?c3 ?c4 ?c5 _ rfl ?_)
       case c1=>exact ge (af rfl)
       case c2=>exact kL _ _ _
       case c3=>unfold maxLen;omega
       case c4=>omega
       case c5=>simp;omega
       intro ao a3 hL s f t hM;obtain⟨y,df⟩:=ag (aZ.apt (xs:=[]) (ad.alloc (.cells #[.slice (some ⟨gx,0,none⟩) (c.rows.length+8) capx] 42))) (aZ.app (vs1:=[r,S]) (vs2:=[Z]) (v':=.slice (some ⟨ao,0,none⟩) (a.length+1) a3) (ad.alloc _) (by simp;omega) f rfl (t.imp id (fun e=>by rw[e];simp)) hM);have be:ao≠w.heap.size:=(df.off (.slice (some ⟨ao,0,none⟩) (a.length+1) a3) (by simp) ao rfl).2.1;obtain⟨b3,fn,dk⟩:=aC ((C.alloc _).setRow y f s (by simp[Value.ownBlock];exact be)) ((D.alloc (by omega) _).grown f (by simp;omega) (fun k g=>(ad.off (.slice hJ a.length hK) (by simp) k g).2.2.1)) ((f.block w.heap.size (by simp;omega) (fun g=>y.pr g.symm)).trans (ai C.box));obtain⟨hN,hO⟩:=blk dk;have hP:=aa dk;obtain⟨fo,fp⟩:=ag (df.box 2 (.slice (some ⟨ao,0,none⟩) (a.length+1) a3)) (fn.setCell (p:=⟨w.heap.size,2,none⟩) (Ji _) (.slice (some ⟨ao,0,none⟩) (a.length+1) a3));clear ar au s f t;go_wp2_with fail;clear hN hO hP dk y df fn C D ad bF;generalize hL.setCell ⟨w.heap.size,2,none⟩ (.slice (some ⟨ao,0,none⟩) (a.length+1) a3)=bz at*;generalize ir:Value.slice (some ⟨ao,0,none⟩) (a.length+1) a3=fq at*;obtain⟨bq,br,bs⟩:=(U bJ) _ fp.drew;obtain⟨b4,b5,rfl⟩:=dB b3.tab
       have hQ:bz.drew.cell? ⟨w.heap.size,0,none⟩=some (.slice b4 a.length b5):=by
        show bz.cell? _=_
        rw[(blk b3.box).1];rfl
       have it:bz.cell? ⟨w.heap.size,0,none⟩=some (.slice b4 a.length b5):=hQ;have f8: ∀o,bz.drew.frozen? ⟨w.heap.size,o,none⟩=false:=fun o=>(blk b3.box).2 o;have iv:=fo.ltp;have dp:=ab b3.drew;have dq:=ab fo.drew;have hR:=ab fp.drew;generalize b6:c.cols.length+8=b7 at*;have iw:c.cols.length<=b7:=by omega
       have hS:=ab b6;clear b6;have ix:a.length<l.length:=by omega
       go_region_law (first
        |(refine KE _ rfl (.tmp 103) (.tmp 121) 84 rfl w.heap.size 44 ea (.agg #[.string ⟨#[]⟩,.slice none 0 0,.slice none 0 0]) 3 64 underlying84 eb ed ef eg rfl (by decide) (.slice b4 a.length b5) a.length ts (by simp[Act.eval]) (dp.tab.alloc _) ⟨bz.heap.size,0,none⟩ 1 1 [.string c.name,.slice (some ⟨z,0,none⟩) c.cols.length b7,.slice (some ⟨gx,0,none⟩) c.rows.length capx] (by simp[Act.eval]) rfl (KR (cs:= #[.string c.name,.slice (some ⟨z,0,none⟩) c.cols.length b7,.slice (some ⟨gx,0,none⟩) c.rows.length capx]) (af rfl)) (Gc _ _ _ _ _ _ _) (by decide) (by unfold maxLen;omega) (by omega) (by simp;omega) _ rfl ?_;intro O av gl s f t ce;have y:=ab (aZ.apt (xs:=[]) (dq.alloc (.cells #[.string c.name,.slice (some ⟨z,0,none⟩) c.cols.length b7,.slice (some ⟨gx,0,none⟩) c.rows.length capx] 44)));have a5:=ab (aZ.app (vs1:=[]) (vs2:=[S,fq,Z]) (v':=.slice (some ⟨O,0,none⟩) (a.length+1) av) (dq.alloc _) (by simp;omega) f rfl (t.imp id (fun e=>MN e.symm)) ce);have cf:O≠w.heap.size:=(a5.off (.slice (some ⟨O,0,none⟩) (a.length+1) av) (by simp) O rfl).2.1;have cg:=ab ((dp.alloc _).setTab y f s (by simp[Value.ownBlock];exact cf));have ch:=ab ((hR.alloc (by simp;omega) _).grown f (by simp;omega) (fun k g=>(dq.off (.slice b4 a.length b5) (by simp) k g).2.2.1));have aT:=ab ((f.block w.heap.size (by simp;omega) (fun g=>y.pt g.symm)).trans (ai dp.box));have gm:=(blk aT).1 0;have gn:=(blk aT).2;have gq:=aa aT;clear s f t)
        |fail)
       all_goals
        go_wp2;go_roundg W.length
        case measure=>simp
        case rel=>
         have b6:=U hS;subst b6;refine⟨a++[c],W,hI,.slice (some ⟨O,0,none⟩) (a.length+1) av,S,fq,Z,_,_,_,_,gs,rfl,?_,.snoc c z gx capx cur (en.mono hH) hG,?_,a5.box _ _,ch.setCell (Ji _) _⟩
         ·rw[Jk];go_num
         ·have e:nrows (a++[c])=nrows a+c.rows.length:=by rw[gD];simp[nrows]
          rw[e,Jk];exact cg
theorem jX{W:World}{g:Nat}{T:TypeId}{xs:List Value}(a:W.heap[g]? =some (.cells xs.toArray T (0,0)))(n:Nat)(hn:n<=xs.length)(c:n<=maxLen)(cap:Nat):aS W (.slice (some ⟨g,0,none⟩) n cap) (xs.take n):=by refine⟨_,cap,by rw[JU,Le hn],by rw[JU,Le hn];exact c,fun _=>⟨g,0,rfl,aa a,fun d b=>?_⟩⟩;rw[JU,Le hn]at b;rw[JV,(blk a).1,Kl,Jo b];simp
theorem Ca{W:World}{F:Fx}{g:Nat}{ts:List ByteArray}(a: ∀b o,F b=some o->W.heap[b]? =some o)(c:xL F g ts)(d:ts.length<=1048576):aS W (.slice (some ⟨g,0,none⟩) (ts.length+8) (ts.length+8)) (aB (ts++List.replicate 8 ie)):=by have:=jX (a _ _ c) (ts.length+8) (by simp) (by unfold maxLen;omega) (ts.length+8);rw[JJ (by simp)]at this;exact this
theorem D2{W:World}{F:Fx}{g:Nat}{a:List Int}(c: ∀b o,F b=some o->W.heap[b]? =some o)(d:sS F g a)(e:a.length<=1048576):aS W (.slice (some ⟨g,0,none⟩) (a.length+8) (a.length+8)) (aE (a++List.replicate 8 (-77))):=by have:=jX (c _ _ d) (a.length+8) (by simp) (by unfold maxLen;omega) (a.length+8);rw[JJ (by simp)]at this;exact this
theorem vZ{W:World}{F:Fx}{g:Nat}{a:List Int}(c: ∀b o,F b=some o->W.heap[b]? =some o)(d:sS F g a)(e:a.length<=1048576):aS W (.slice (some ⟨g,0,none⟩) a.length (a.length+8)) (aE a):=by have:=jX (c _ _ d) a.length (by simp) (by unfold maxLen;omega) (a.length+8);rw[aE,Ks,Ls (by simp),JJ (by simp)]at this;exact this
theorem FP{W:World}{F:Fx}{v:Value}(c: ∀b o,F b=some o->W.heap[b]? =some o)(d:rX F v): ∃a,v=.slice (some ⟨a,0,none⟩) 1 1/\aS W (.slice (some ⟨a,0,none⟩) 1 1) (aE [-77]):=by obtain⟨a,rfl,e⟩:=d;exact⟨a,rfl,jX (xs:=[.int .i64 (-77)]) (c _ _ e) 1 (by simp) (by unfold maxLen;omega) 1⟩
theorem FQ(n:Nat):(kW n).length=n*3:=by
 induction n with
 |zero=>rfl
 |succ n a=>simp only[kW,Jk,a,Ju,Kr];omega
theorem Hb(n:Nat): ∀m,m<n->(kW n)[m*3]? =some (.string ie):=by
 induction n with
 |zero=>intro m a;omega
 |succ n b=>
  intro m a;have c:=FQ n;rcases J' m n with hm|hm
  ·rw[kW,Jz (by omega)];exact b m hm
  ·obtain rfl:m=n:=by omega
   rw[kW,Jw (by omega),<-c,Kv];rfl
theorem FR{W:World}{g:Nat}{T:TypeId}{a:Array Value}{xs f:List Value}(c:W.heap[g]? =some (.cells a T (0,0)))(n:Nat)(d:a.toList.take n=xs++f)(h:xs.length<=maxLen)(cap:Nat):aS W (.slice (some ⟨g,0,none⟩) xs.length cap) xs:=by
 refine⟨_,cap,rfl,h,fun _=>⟨g,0,rfl,aa c,fun b i=>?_⟩⟩;have j:b<n:=by have:=JE List.length d;rw[JU,Jk]at this;omega
 have e:(a.toList.take n)[b]? =xs[b]? :=by rw[d,Jz i]
 rw[Kl,Jo j]at e;rw[JV,(blk c).1,<-e];simp
theorem pY.tbV{W:World}{F:Fx}(d: ∀b o,F b=some o->W.heap[b]? =some o){t:Tb}{f g e:Nat}{i:Array Value}{j:List Value}(k:pY F t f g e i j)(w:t.cols.length<=1048576)(x:t.rows.length<=1048576)(l: ∀r∈t.rows,r.length<=1048576):
  xK W [.string t.name,.slice (some ⟨f,0,none⟩) t.cols.length (t.cols.length+8),.slice (some ⟨g,0,none⟩) t.rows.length e] t:=by
 obtain⟨m,n,p,y,a,z,A,q⟩:=k;refine⟨_,_,rfl,?_,by simp[lX],p,?_,a.len.1,fun s r B h c=>?_⟩
 ·have:=jX (d _ _ m) t.cols.length (by simp) (by unfold maxLen;omega) (t.cols.length+8);rw[aB,Ks,Ls (by simp),JJ (by simp)]at this;exact this
 ·have:=FR (d _ _ n) (t.rows.length+8) q (by rw[a.len.1];unfold maxLen;omega) e;rw[a.len.1]at this;exact this
 ·obtain⟨C,u,v,_⟩:=a.at s r h;rw[v]at c;injection c with c;subst c;exact vZ d u (l r (JL h))
theorem we{W:World}{F:Fx}(t: ∀b o,F b=some o->W.heap[b]? =some o){lo p i e:Nat}{u v w:Value}{ts cs rs m:List Value}{l:List Tb}(n:LTabs F l ts cs rs m)(d:fN lo p W (.slice (some ⟨i,0,none⟩) (l.length+8) e) u v w (l.length+8) l.length l.length (nrows l) (ts++kW 8) cs rs m)(f:vY l):bp W (.slice (some ⟨i,0,none⟩) l.length e) l:=by
 have E:l.length+8<=e:=by
  rcases d.tab.2 with⟨h,_⟩|⟨g,x,y,h,_,_,hle,_⟩
  ·cases h
  ·injection h with _ _ h;omega
 have G:=f.len;have H:=n.len.1;have z:=(d.tab.lt _ rfl).2;refine⟨_,e,rfl,by unfold maxLen;omega,by omega,fun _=>⟨i,0,rfl,z,fun a c j=>?_⟩⟩;have A:a<l.length:=(Jy.1 j).1;have B:l=l.take a++c::l.drop (a+1):=by have:=(KK a l).symm;rw[Kz A]at this;rw[(Jy.1 j).2]at this;exact this
 obtain⟨I,J,x,y,K,L,M,C,_,_,q,r,s,_,_⟩:=n.at _ _ c B;have k:c∈l:=JL j;have D:(l.take a).length=a:=by rw[JU];omega
 rw[D]at q r s;refine⟨_,_,C.tbV t (f.cols c k) (f.rows c k) (f.row c k),?_,?_,?_⟩
 ·rw[JV,d.tab.cellAt _ (by omega),Jz (by omega),q]
 ·rw[JV,d.tab.cellAt _ (by omega),Jz (by omega),r]
 ·rw[JV,d.tab.cellAt _ (by omega),Jz (by omega),s]
structure Sp(lo hi:Nat)(w W:World):Prop where
 os:W.os=w.os
 tape:W.tape=w.tape
 output:W.output=w.output
 size:w.heap.size<=W.heap.size
 block: ∀b,b<lo∨hi<=b->b<w.heap.size->W.heap[b]? =w.heap[b]?
theorem Sp.refl(lo a:Nat)(w:World):Sp lo a w w:=⟨rfl,rfl,rfl,Ji _,fun _ _ _=>rfl⟩
theorem Sp.alloc{lo c:Nat}{w W:World}(a:Sp lo c w W)(o:Obj):Sp lo c w (W.alloc o):=
 ⟨a.os,a.tape,a.output,Jt a.size (by simp),fun b e d=>(J9 _ _ _ (Js d a.size)).trans (a.block b e d)⟩
theorem Sp.set{lo c g off:Nat}{w W:World}(a:Sp lo c w W)(f:lo<=g)(h:g<c)(u:Value):Sp lo c w (W.setCell ⟨g,off,none⟩ u):=
 ⟨a.os,a.tape,a.output,Jt a.size (by simp),fun b d e=>(Jp _ _ _ _ (by simp;omega)).trans (a.block b d e)⟩
theorem Sp.below{lo b:Nat}{w W:World}(a:Sp lo b w W)(d:lo<=w.heap.size):Below lo w W:=
 ⟨a.os,a.tape,a.output,a.size,fun k c=>a.block k (Or.inl c) (by omega)⟩
def nq(F:Fx)(v:Value):Prop:= ∃b a d c e,v=.slice (some ⟨b,0,none⟩) a d/\F b=some (.cells c e (0,0))/\a<=c.size/\a<=2097152
theorem nq.set{F:Fx}{v:Value}{b off:Nat}{cs:Array Value}{T:TypeId}(j:nq F v)(k:F b=some (.cells cs T (0,0)))(u:Value):nq (F.set b (.cells (cs.setIfInBounds off u) T (0,0))) v:=by
 obtain⟨c,d,e,l,m,f,a,g,h⟩:=j;by_cases i:c=b
 ·subst i;rw[k]at a;injection a with a;injection a with a n;subst a n;exact⟨c,d,e,_,T,f,Fx.set_same _ _ _,by simpa using g,h⟩
 ·exact⟨c,d,e,l,m,f,by rw[Fx.set_other _ _ i];exact a,g,h⟩
structure SI(lo hi p:Nat)(w W:World)(tv cv rv lv:Value)(nt nc nr nl:Nat)(cs rs ls:List Value)(F:Fx)(T:List Value):Prop where
 lnt:fN lo p W tv cv rv lv nt nc nr nl T cs rs ls
 grow:aZ lo F p [tv,cv,rv,lv] W
 rl: ∀v∈ls,nq F v
 rc: ∀v∈cs,nq F v
 rr: ∀v∈rs,nq F v
 hF: ∀b o,F b=some o->b<hi
 hv: ∀b,tv.ownBlock=some b->b<hi
 sp:Sp lo hi w W
section
variable {lo hi p nt nc nr nl : Nat} {w W : World} {tv cv rv lv : Value} {cs rs ls T : List Value} {F : Fx}
theorem SI.alloc(a:SI lo hi p w W tv cv rv lv nt nc nr nl cs rs ls F T)(o:Obj):SI lo hi p w (W.alloc o) tv cv rv lv nt nc nr nl cs rs ls F T:=
 ⟨a.lnt.alloc o,a.grow.alloc o,a.rl,a.rc,a.rr,a.hF,a.hv,a.sp.alloc o⟩
theorem SI.write(a:SI lo hi p w W tv cv rv lv nt nc nr nl cs rs ls F T){g:Nat}{k:Array Value}{l:TypeId}(b:F g=some (.cells k l (0,0)))(off:Nat)(u:Value): ∃m,SI lo hi p w (W.setCell ⟨g,off,none⟩ u) tv cv rv lv nt nc nr nl cs rs ls m T:=by
 have f: ∀c∈ [tv,cv,rv,lv],c.ownBlock≠some g:=fun c d e=>by have:=(a.grow.off c d g e).1;rw[b]at this;cases this
 have n:g≠p:=fun e=>by have:=a.grow.offp;rw[<-e,b]at this;cases this
 refine⟨_,⟨?_,bD a.lnt.tab (f tv (by simp)),bD a.lnt.col (f cv (by simp)),bD a.lnt.row (f rv (by simp)),bD a.lnt.lst (f lv (by simp))⟩,a.grow.write b off u,fun c d=>(a.rl c d).set b u,fun c d=>(a.rc c d).set b u,fun c d=>(a.rr c d).set b u,fun i o e=>?_,a.hv,a.sp.set (a.grow.fits g _ b).1 (a.hF g _ b) u⟩
 ·rw[Jp _ _ _ _ (by simp;exact Lm n)];exact a.lnt.box
 ·by_cases j:i=g
  ·subst j;exact a.hF i _ b
  ·rw[Fx.set_other _ _ j]at e;exact a.hF i o e
theorem SI.at(e:SI lo hi p w W tv cv rv lv nt nc nr nl cs rs ls F T){v:Value}(f:nq F v): ∃g n cap a b,v=.slice (some ⟨g,0,none⟩) n cap/\F g=some (.cells a b (0,0))/\n<=2097152/\g<W.heap.size/\g≠p/\(∀k,k<n-> ∃x,W.cell? ⟨g,k,none⟩=some x)/\ ∀k,W.frozen? ⟨g,k,none⟩=false:=by
 obtain⟨g,n,cap,a,b,h,c,l,i⟩:=f;have d:=(e.grow.fits g _ c).2;refine⟨g,n,cap,a,b,h,c,i,aa d,fun j=>?_,fun k m=>?_,(blk d).2⟩
 ·have:=e.grow.offp;rw[<-j,c]at this;cases this
 ·refine⟨a[k]'(by omega),?_⟩;rw[(blk d).1,Mh (by omega)]
theorem SI.tab{g n cap:Nat}(a:SI lo hi p w W (.slice (some ⟨g,0,none⟩) n cap) cv rv lv n nc nr nl cs rs ls F T)(off:Nat)(u:Value): ∃i,SI lo hi p w (W.setCell ⟨g,off,none⟩ u) (.slice (some ⟨g,0,none⟩) n cap) cv rv lv n nc nr nl cs rs ls F i:=by
 have d:=aZ.apt (xs:=[]) a.grow;have e:=a.grow.off (.slice (some ⟨g,0,none⟩) n cap) (by simp) g rfl;obtain⟨j,m⟩:=a.lnt.tab.stored off u;refine⟨_,⟨?_,j,bD a.lnt.col (fun b=>d.tc g rfl b),bD a.lnt.row (fun b=>d.tr g rfl b),bD a.lnt.lst (fun b=>d.tl g rfl b)⟩,?_,a.rl,a.rc,a.rr,a.hF,a.hv,a.sp.set e.2.2.1 (a.hv g rfl) u⟩
 ·rw[Jp _ _ _ _ (by simp;exact Lm e.2.1)];exact a.lnt.box
 ·refine⟨fun c f b=>⟨(a.grow.fits c f b).1,?_⟩,a.grow.offp,by simpa using a.grow.ltp,fun k l c b=>by simpa using a.grow.off k l c b,a.grow.dis⟩;rw[Jp _ _ _ _ (fun h=>by simp at h;rw[h,e.1]at b;cases b)];exact(a.grow.fits c f b).2
end
theorem wg(lo y p f n h:Nat)(w:World)(a3 a4 a5 a9:Value)(cs rs q:List Value)(ax:Fx)(ay:List Value)(J:SI lo y p w w a3 a4 a5 a9 f n n h cs rs q ax ay)(a':0<f)(bk:f<=2097152)(bl:n<=2097152)(bn:h<=2097152):
  Calls prog 49 #[.pointer (some ⟨p,0,none⟩)] w fun e w'=>e=.returned (.tuple #[])/\Sp lo y w w':=by
 have aA:=ab J;obtain⟨K,z,rfl⟩:=dB J.lnt.lst;obtain⟨M,A,rfl⟩:=dB J.lnt.col;obtain⟨ad,E,rfl⟩:=dB J.lnt.row;obtain⟨u,F,rfl,_,_⟩:=J.lnt.tab.form a';clear J;go_enter func49,ntmps49;go_wp2_with fail
 go_loopg [2] h (fun g N r=> ∃b m l,b+g=h/\N=.int .i64 (b:Nat)/\SI lo y p w r (.slice (some ⟨u,0,none⟩) f F) (.slice M n A) (.slice ad n E) (.slice K h z) f n n h cs rs q m l)
 case atStart=>exact⟨0,ax,ay,JV _,rfl,aA⟩
 case round=>
  clear aA;obtain⟨b,m,l,ae,rfl,a⟩:=hrel;have c:=ab a;have t:wr.cell? ⟨p,3,none⟩=some (.slice K h z):=by rw[(blk a.lnt.box).1];rfl
  have G:=aa a.lnt.box;clear a
  cases gk with
  |succ g=>
   have O:b<h:=by omega
   have x:decide (b<h)=true:=by simpa using O
   obtain⟨aj,bq,j,_,ak⟩:=c.lnt.lst.form (by omega);injection j with j _ P;subst j P;have br:q.length=h:=by have:=c.lnt.lst.1;omega
   obtain⟨v,H⟩: ∃v,q[b]? =some v:=⟨q[b]'(by omega),Jl _⟩
   have I:v∈q:=JL H;obtain⟨Q,i,R,_,_,rfl,_,aI,_,aJ,_,_⟩:=c.at (c.rl v I);go_wp2_with fail;clear t x
   go_loopg [3] i (fun g S r=> ∃d m l,d+g=i/\S=.int .i64 (d:Nat)/\SI lo y p w r (.slice (some ⟨u,0,none⟩) f F) (.slice M n A) (.slice ad n E) (.slice (some ⟨aj,0,none⟩) h z) f n n h cs rs q m l)
   case atStart=>exact⟨0,_,_,JV _,rfl,c⟩
   case round=>
    clear c;obtain⟨d,al,B,aL,rfl,a⟩:=hrel;have c:=ab a;have t:wr.cell? ⟨p,3,none⟩=some (.slice (some ⟨aj,0,none⟩) h z):=by rw[(blk a.lnt.box).1];rfl
    have G:=aa a.lnt.box;have au:wr.cell? ⟨aj,b,none⟩=some (.slice (some ⟨Q,0,none⟩) i R):=by rw[a.lnt.lst.cellAt _ (by omega),H]
    have ak:aj<wr.heap.size:=(a.lnt.lst.lt _ rfl).2;obtain⟨aN,aR,aT,aU,aV,T,C,_,av,_,s,o⟩:=a.at (a.rl _ I);injection T with k V j;injection k with k;injection k with k;subst k V j;have W:=ab C;clear a C
    cases gk with
    |succ g=>
     have D:d<i:=by omega
     have L:decide (d<i)=true:=by simpa using D
     obtain⟨an,s⟩:=s d D;have a0:=o d;clear o;go_wp2;go_roundg g
     case measure=>simp
     case rel=>obtain⟨X,Y⟩:=c.write W d _;exact⟨d+1,X,B,by omega,by go_num,Y⟩
    |zero=>
     have L:decide (d<i)=false:=by simp;omega
     clear s o;go_wp2;go_roundg g
     case measure=>simp
     case rel=>exact⟨b+1,al,B,by omega,by go_num,c⟩
  |zero=>
   have x:decide (b<h)=false:=by simp;omega
   go_wp2_with fail;clear x t G
   go_loopg [4] n (fun g N r=> ∃b m l,b+g=n/\N=.int .i64 (b:Nat)/\SI lo y p w r (.slice (some ⟨u,0,none⟩) f F) (.slice M n A) (.slice ad n E) (.slice K h z) f n n h cs rs q m l)
   case atStart=>exact⟨0,_,_,JV _,rfl,c⟩
   case round=>
    clear c ae;obtain⟨b,m,l,ae,rfl,a⟩:=hrel;have c:=ab a;have t:wr.cell? ⟨p,1,none⟩=some (.slice M n A):=by rw[(blk a.lnt.box).1];rfl
    have G:=aa a.lnt.box;clear a
    cases gk with
    |succ g=>
     have O:b<n:=by omega
     have x:decide (b<n)=true:=by simpa using O
     obtain⟨Z,bs,j,_,bt⟩:=c.lnt.col.form (by omega);injection j with j _ P;subst j P;obtain⟨ac,bu,j,_,bv⟩:=c.lnt.row.form (by omega);injection j with j _ P;subst j P;have bx:cs.length=n:=by have:=c.lnt.col.1;omega
     have bz:rs.length=n:=by have:=c.lnt.row.1;omega
     obtain⟨ao,a1⟩: ∃ao,rs[b]? =some ao:=⟨rs[b]'(by omega),Jl _⟩
     have a2:ao∈rs:=JL a1
     obtain⟨v,H⟩: ∃v,cs[b]? =some v:=⟨cs[b]'(by omega),Jl _⟩
     have I:v∈cs:=JL H;obtain⟨Q,i,R,_,_,rfl,_,aI,_,aJ,_,_⟩:=c.at (c.rc v I);go_wp2_with fail;clear t x
     go_loopg [5] i (fun g S r=> ∃d m l,d+g=i/\S=.int .i64 (d:Nat)/\SI lo y p w r (.slice (some ⟨u,0,none⟩) f F) (.slice (some ⟨Z,0,none⟩) n A) (.slice (some ⟨ac,0,none⟩) n E) (.slice K h z) f n n h cs rs q m l)
     case atStart=>exact⟨0,_,_,JV _,rfl,c⟩
     case round=>
      clear c;obtain⟨d,al,B,aL,rfl,a⟩:=hrel;have c:=ab a;have t:wr.cell? ⟨p,1,none⟩=some (.slice (some ⟨Z,0,none⟩) n A):=by rw[(blk a.lnt.box).1];rfl
      have G:=aa a.lnt.box;have au:wr.cell? ⟨Z,b,none⟩=some (.slice (some ⟨Q,0,none⟩) i R):=by rw[a.lnt.col.cellAt _ (by omega),H]
      have ak:Z<wr.heap.size:=(a.lnt.col.lt _ rfl).2;obtain⟨aN,aR,aT,aU,aV,T,C,_,av,_,s,o⟩:=a.at (a.rc _ I);injection T with k V j;injection k with k;injection k with k;subst k V j;have W:=ab C;clear a C
      cases gk with
      |succ g=>
       have D:d<i:=by omega
       have L:decide (d<i)=true:=by simpa using D
       obtain⟨an,s⟩:=s d D;have a0:=o d;clear o;go_wp2;go_roundg g
       case measure=>simp
       case rel=>obtain⟨X,Y⟩:=c.write W d _;exact⟨d+1,X,B,by omega,by go_num,Y⟩
      |zero=>
       have L:decide (d<i)=false:=by simp;omega
       clear s o;go_wp2_with fail;clear L t au av ak;obtain⟨Q,i,R,_,_,rfl,_,aI,_,aJ,_,_⟩:=c.at (c.rr ao a2);have I:=a2;have H:=a1
       go_loopg [6] i (fun g S r=> ∃d m l,d+g=i/\S=.int .i64 (d:Nat)/\SI lo y p w r (.slice (some ⟨u,0,none⟩) f F) (.slice (some ⟨Z,0,none⟩) n A) (.slice (some ⟨ac,0,none⟩) n E) (.slice K h z) f n n h cs rs q m l)
       case atStart=>exact⟨0,_,_,JV _,rfl,c⟩
       case round=>
        clear c;obtain⟨d,al,B,aL,rfl,a⟩:=hrel;have c:=ab a;have t:wr.cell? ⟨p,2,none⟩=some (.slice (some ⟨ac,0,none⟩) n E):=by rw[(blk a.lnt.box).1];rfl
        have G:=aa a.lnt.box;have au:wr.cell? ⟨ac,b,none⟩=some (.slice (some ⟨Q,0,none⟩) i R):=by rw[a.lnt.row.cellAt _ (by omega),H]
        have ak:ac<wr.heap.size:=(a.lnt.row.lt _ rfl).2;obtain⟨aN,aR,aT,aU,aV,T,C,_,av,_,s,o⟩:=a.at (a.rr _ I);injection T with k V j;injection k with k;injection k with k;subst k V j;have W:=ab C;clear a C
        cases gk with
        |succ g=>
         have D:d<i:=by omega
         have L:decide (d<i)=true:=by simpa using D
         obtain⟨an,s⟩:=s d D;have a0:=o d;clear o;go_wp2;go_roundg g
         case measure=>simp
         case rel=>obtain⟨X,Y⟩:=c.write W d _;exact⟨d+1,X,B,by omega,by go_num,Y.alloc _⟩
        |zero=>
         have L:decide (d<i)=false:=by simp;omega
         clear s o;go_wp2;go_roundg g
         case measure=>simp
         case rel=>exact⟨b+1,al,B,by omega,by go_num,c⟩
    |zero=>
     have x:decide (b<n)=false:=by simp;omega
     go_wp2_with fail;clear x t G
     go_loopg [7] f (fun g N r=> ∃b m l,b+g=f/\N=.int .i64 (b:Nat)/\SI lo y p w r (.slice (some ⟨u,0,none⟩) f F) (.slice M n A) (.slice ad n E) (.slice K h z) f n n h cs rs q m l)
     case atStart=>exact⟨0,_,_,JV _,rfl,c⟩
     case round=>
      clear c ae;obtain⟨b,m,l,ae,rfl,a⟩:=hrel;have c:=ab a;have t:wr.cell? ⟨p,0,none⟩=some (.slice (some ⟨u,0,none⟩) f F):=by rw[(blk a.lnt.box).1];rfl
      have G:=aa a.lnt.box;have bA:u<wr.heap.size:=(a.lnt.tab.lt _ rfl).2;have bF:l.length=f*3:=a.lnt.tab.1
      cases gk with
      |succ g=>
       have O:b<f:=by omega
       have x:decide (b<f)=true:=by simpa using O
       have ap: ∀ar,ar<f*3-> ∃an,wr.cell? ⟨u,ar,none⟩=some an:=fun ar ba=>⟨l[ar]'(by omega),by rw[a.lnt.tab.cellAt _ ba,Jl (by omega)]⟩
       obtain⟨bG,bJ⟩:=ap (b*3) (by omega);obtain⟨bL,bN⟩:=ap (b*3+1) (by omega);obtain⟨bS,d⟩:=ap (b*3+2) (by omega);have o:=a.lnt.tab.frozenAt;clear a ap;go_wp2;go_roundg g
       case measure=>simp
       case rel=>obtain⟨bX,bb⟩:=c.tab (b*3) (.string ⟨#[111,116,104,101,114]⟩);obtain⟨B,bc⟩:=bb.tab (b*3+1) (.slice none 0 0);obtain⟨be,bg⟩:=bc.tab (b*3+2) (.slice none 0 0);exact⟨b+1,m,be,by omega,by go_num,bg⟩
      |zero=>
       have x:decide (b<f)=false:=by simp;omega
       clear a;go_wp2;exact bodyPost_end (v:=.tuple #[]) (by simp[results,results49,go_sem]) rfl ⟨rfl,c.sp⟩
theorem iz.rooms{F:Fx}{rs:List (List Int)}{c b:List Value}(e:iz F rs c b)(d: ∀r∈rs,r.length<=1048576): ∀v∈b,nq F v:=by
 induction e with
 |nil=>intro v a;cases a
 | @snoc rs c b z g _ hi ih=>
  intro v a;rcases JW.1 a with a|a
  ·exact ih (fun r f=>d r (J4 _ f)) v a
  ·rw[JN]at a;subst a;have:=d z (by simp);exact⟨g,_,_,_,_,rfl,hi,by simp,by omega⟩
theorem LTabs.rooms{F:Fx}{l:List Tb}{ts cs rs c:List Value}(i:LTabs F l ts cs rs c)(e: ∀t∈l,t.cols.length<=1048576)(f: ∀t∈l,t.rows.length<=1048576)(g: ∀t∈l,∀r∈t.rows,r.length<=1048576):(∀v∈c,nq F v)/\(∀v∈cs,nq F v)/\(∀v∈rs,nq F v):=by
 induction i with
 |nil=>exact⟨fun v a=>(by cases a),fun v a=>(by cases a),fun v a=>(by cases a)⟩
 | @snoc l ts cs rs c ls2 t gc gr capr cur _ b ih=>
  obtain⟨j,k,m⟩:=ih (fun t b=>e t (J4 _ b)) (fun t b=>f t (J4 _ b)) (fun t b=>g t (J4 _ b));obtain⟨n,o,u,w,h,p,x,q⟩:=b;have d:t∈l++[t]:=by simp
  refine⟨fun v a=>?_,fun v a=>?_,fun v a=>?_⟩
  ·rcases JW.1 a with a|a
   ·exact j v a
   ·exact h.rooms (g t d) v a
  ·rcases JW.1 a with a|a
   ·exact k v a
   ·rw[JN]at a;subst a;have:=e t d;exact⟨gc,_,_,_,_,rfl,n,by simp,by omega⟩
  ·rcases JW.1 a with a|a
   ·exact m v a
   ·rw[JN]at a;subst a;have:=f t d;refine⟨gr,_,_,_,_,rfl,o,?_,by omega⟩;have s:=JE List.length q;rw[JU,Jk,h.len.1,p,JP]at s;omega
theorem FU(t:Tb)(ahead:List Tb):p6 t ahead=0∨p6 t ahead=4∨p6 t ahead=9∨p6 t ahead=7∨p6 t ahead=10:=by
 unfold p6
 repeat' split
 all_goals simp
theorem yZ(l pre:List Tb):dR pre l=0∨dR pre l=4∨dR pre l=9∨dR pre l=7∨dR pre l=10:=by
 induction l generalizing pre with
 |nil=>exact Or.inl rfl
 |cons b c a=>
  rw[dR];split
  ·exact a _
  ·exact FU _ _
theorem Al(l:List Tb):bT l=0∨bT l=4∨bT l=9∨bT l=7∨bT l=10:=by
 unfold bT;split
 ·simp
 ·exact yZ _ _
end
end Go.Proofs.YtfkeddkfegaeiaaGreatDoor
