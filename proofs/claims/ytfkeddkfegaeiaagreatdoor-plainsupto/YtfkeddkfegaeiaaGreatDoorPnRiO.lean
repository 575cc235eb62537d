import Derived.Test.YtfkeddkfegaeiaaGreatDoorPnRiM
import Derived.Test.YtfkeddkfegaeiaaGreatDoorPnRqY
set_option maxRecDepth 100000
set_option maxHeartbeats 20000000
namespace Go.Proofs.YtfkeddkfegaeiaaGreatDoor
section
open Go.RowKit Tryz
theorem B6{b:Type}(a:List (List Int))(c:List b)(g:b->List Int->Int):kH a.length (c.map fun f=>a.map (g f))=a.map fun r=>c.map fun f=>g f r:=by
 unfold kH;apply LV
 ·simp
 ·intro h e d;simp only[Jm,List.length_range]at e d;simp only[List.getElem_map,List.getElem_range,Ml];apply MF;intro f _;simp[d]
theorem sn{d:Type}(f:d->Option (Nat×Nat)): ∀(l:List d) (a:Option (Nat×Nat)),l.foldl (fun x e=>bQ x (f e)) a=none->a=none/\ ∀x∈l,f x=none
 | [],_,c=>⟨c,fun _ b=>by cases b⟩
 |e::l,a,c=>by
  obtain⟨g,h⟩:=sn f l _ c;refine⟨(dZ g).1,fun x b=>?_⟩;rcases JG.1 b with rfl|b
  ·exact(dZ g).2
  ·exact h x b
theorem tW{T:List Tb}{x:dP}{a:Fs}{d:Nat}{b l:List (List Int)}{R:Option (Nat×Nat)}(f:Pn T x a d b l R):(dK T a.ss x d).map (im T a.ss x)=l:=by
 have g:b=(dK T a.ss x d).map (gj (aK T a.ss)):=by rw[f.ech];unfold gE dK;rw[List.filter_map];rfl
 rw[f.el,Ml];have h:=B6 b x.items fun c=>dm (a6 T a.ss) c.val;have i:((fun j=>j b)∘fun c=>F9 T c a.ss)=fun(c:bH)=>b.map (dm (a6 T a.ss) c.val):=rfl;rw[i,h];have k: ∀e:List (List Int),e=b->(dK T a.ss x d).map (im T a.ss x)=e.map fun m=>x.items.map fun c=>dm (a6 T a.ss) c.val m:=fun e n=>by rw[n,g,Ml];rfl
 exact k b rfl
theorem lP{W W':World}{lo p a:Nat}{t:TypeId}{k n:Nat}{v:Value}{xs:List Value}(b:W.ownsRow lo t k v n xs)(e:aF p a W W')(l:p<lo)(m:a<lo):W'.ownsRow lo t k v n xs:=⟨b.1,b.2.imp id (fun⟨c,f,g,h,i,d,j⟩=>⟨c,f,g,h,i,(e.block c (aa d) (by omega) (by omega)).trans d,j⟩)⟩
theorem PQ.off2{W W':World}{lo d p g:Nat}{h:List RE}{j:List RI}{k l:List RT}{rs:List RP}{m n o q r:Value}(a:PQ W lo d h j k l rs m n o q r)(b:aF p g W W')(e:p<lo)(f:g<lo)(t:lo<=d):PQ W' lo d h j k l rs m n o q r:=
 have c: ∀i v,W.cell? ⟨d,i,none⟩=some v->W'.cell? ⟨d,i,none⟩=some v:=fun i _ s=>(mz (b.block _ a.lt (by omega) (by omega)) i).trans s
 ⟨c _ _ a.name,c _ _ a.c14,c _ _ a.c15,c _ _ a.c16,c _ _ a.c17,c _ _ a.c18,c _ _ a.c21,Js a.lt b.size,lP a.ex b e f,lP a.it b e f,lP a.tb b e f,lP a.nm b e f,lP a.ts b e f⟩
theorem yT{W:World}{lo t k n g c cap:Nat}{xs:List Value}{b:Nat}(d:W.ownsRow lo t k (.slice (some ⟨g,0,none⟩) c cap) n xs)(m:b≠g)(u:Value){o:Nat}:(W.setCell ⟨b,o,none⟩ u).ownsRow lo t k (.slice (some ⟨g,0,none⟩) c cap) n xs:=by refine⟨d.1,d.2.imp id (fun⟨e,f,h,a,i,j,l⟩=>⟨e,f,h,a,i,?_,l⟩)⟩;injection a with a;injection a with a;injection a with a;rw[Jp _ _ _ _ (by show e≠b;omega)];exact j
theorem DT{t a:ByteArray}(c:(t=⟨#[]⟩/\a=⟨#[95]⟩)∨(0<t.size/\a=t)):iZ t=a:=by
 unfold iZ;rcases c with⟨h1,h2⟩|⟨h1,h2⟩
 ·rw[h1,h2,JA];rfl
 ·rw[h2,JA,Jn];intro b;rw[List.isEmpty_iff]at b;have:t.data.toList.length=0:=by rw[b];rfl
  rw[JP]at this;exact absurd this (by have:t.data.size=t.size:=rfl;omega)
theorem po{W:World}{c:Nat}{u v:Value}{t:TypeId}(b:W.heap[c]? =some (.cells #[u,v] t (0,0))):Below W.heap.size W ((W.setCell ⟨c,0,none⟩ u).setCell ⟨c,1,none⟩ v):=by
 refine⟨rfl,rfl,rfl,by simp[World.setCell],fun d _=>?_⟩;by_cases a:d=c
 ·subst a;rw[am (am b _) _,b];rfl
 ·rw[Jp _ _ _ _ a,Jp _ _ _ _ a]
structure Yq(W:World)(yb tb lo:Nat)(lv tv:Value)(ts:List ByteArray):Prop where
 blk:W.heap[yb]? =some (.cells #[lv,tv] 159 (0,0))
 txt:W.ownsRow lo 9 1 tv ts.length (aB ts)
 ne:tv.ownBlock=some tb∨tv.ownBlock=none
 lt:tb<W.heap.size
theorem Yq.box{W W':World}{f j lo c:Nat}{k g:Value}{ts:List ByteArray}(b:Yq W f j lo k g ts){cs:Array Value}(o:W.heap[c]? =some (.cells cs 27 (0,0)))(h:aF c c W W')(l:f≠c):Yq W' f j lo k g ts:=by
 have m: ∀a,g.ownBlock=some a->a≠c:=fun a d p=>by
  subst p;rcases b.txt.2 with⟨hv,_⟩|⟨g',cap',cur',hv,hge,e,_⟩
  ·rw[hv]at d;cases d
  ·rw[hv]at d;injection d with d;subst d;rw[o]at e;injection e with e;injection e with _ q _;exact absurd q (by decide)
 exact⟨(h.block _ (aa b.blk) l l).trans b.blk,⟨b.txt.1,b.txt.2.imp id (fun⟨a,r,s,i,t,n,u⟩=>⟨a,r,s,i,t,(h.block a (aa n) (m a (by rw[i];rfl)) (m a (by rw[i];rfl))).trans n,u⟩)⟩,b.ne,Js b.lt h.size⟩
theorem Yq.below{W W':World}{c d lo:Nat}{e f:Value}{ts:List ByteArray}(a:Yq W c d lo e f ts)(b:Below W.heap.size W W'):Yq W' c d lo e f ts:=⟨(b.block _ (aa a.blk)).trans a.blk,dJ a.txt b,a.ne,Js a.lt b.size⟩
theorem aF.box{w W W':World}{p d c:Nat}(a:aF p d w W)(b:aF c c W W')(i:w.heap.size<=c):aF p d w W':=⟨b.os.trans a.os,b.tape.trans a.tape,b.output.trans a.output,Jt a.size b.size,fun e f g h=>(b.block e (Js f a.size) (by omega) (by omega)).trans (a.block e f g h)⟩
theorem aF.two(c:Nat)(W:World)(u v:Value):aF c c W ((W.setCell ⟨c,0,none⟩ u).setCell ⟨c,1,none⟩ v).drew:=((aF.setCell _ _ _ _ _).trans (aF.setCell _ _ _ _ _)).trans (Below.off2 ((Jj _ _).drew))
def jF(ts:List ByteArray)(s:ByteArray):List ByteArray:=if Lib.idxOfS ts s<0 then ts++[s]else ts
structure Io(w:World)(yb tb lo:Nat)(lv tv:Value)(ts:List ByteArray)(N:Nat)(l:List (List Int))(its:List bH)(R:Option (Nat×Nat))(e:Ending)(w':World):Prop where
 off:aF yb tb w w'
 yq: ∃tb' tv',Yq w' yb tb' lo lv tv' ts/\(tb'=tb∨w.heap.size<=tb')/\(tv'.ownBlock=some tb'∨(tb'=tb/\tv'=tv))
 bad: ∀p k,R=some (p,k)->e=.returned (.tuple #[.slice none 0 0,.slice none 0 0,oI R])
 many:R=none->4000<N->e=.returned (.tuple #[.slice none 0 0,.slice none 0 0,.agg #[.int .i64 9,.int .i64 (-1)]])
 good:R=none->N<=4000-> ∃nv rv,e=.returned (.tuple #[nv,rv,.agg #[.int .i64 0,.int .i64 0]])/\aS w' nv (aB (its.map fun i=>iZ i.asT))/\bZ w' rv (iY l)
theorem G0(w:World)(a d lo:Nat)(av M:Value)(ts:List ByteArray)(bk:Yq w a d lo av M ts)(i8:lo<=w.heap.size)(i9:ts.length<=10000000)(s:ByteArray)(hk:s.size<=1000)(X:cH)(er:cP s=.ok X)(T:List Tb)(es:T.length<=5)
  (hl:X.wth=none) (cb: ∀i∈X.main.items,i.win=none) (et:X.main.items.length<=6) (ev:X.main.srcs.length<=3) (ex:X.main.tests.length<=1000)
  (ez: ∀W,aF a d w W->bp W av T) (hm: ∀t∈T,t.rows.length<=200) (hn: ∀t∈T,∀r∈t.rows,r.length=t.cols.length)
  (ae:Fs) (u:Nat) (ho l:List (List Int)) (R:Option (Nat×Nat)) (N:Pn T X.main ae u ho l R):
  Calls prog 52 #[.pointer (some ⟨a,0,none⟩),.string s] w fun e w'=>Io w a d lo av M (jF ts s) u l X.main.items R e w':=by
 have eN:Hid (∀W,Calls prog 39 #[.string s] W fun e w'=>nS W (.ok X) e w'):=fun W=>by have:=vV s W hk;rw[er]at this;exact this
 have aj:=ab bk;have jh:=bk.lt;have jj:=aa bk.blk;obtain⟨cc,ax⟩:=ag ez N;clear bk ez N er;go_enter func52,ntmps52;go_wp2_with fail;have cd:Below w.heap.size w (w.alloc (.cells #[.int .i64 0,.int .i64 0] 27)):=(Jj _ _).alloc (Ji _) _;have bl:(w.alloc (.cells #[.int .i64 0,.int .i64 0] 27)).heap[w.heap.size]? =some (.cells #[.int .i64 0,.int .i64 0] 27 (0,0)):=af rfl;generalize w.alloc (.cells #[.int .i64 0,.int .i64 0] 27)=ay at*;refine(eN ay).mono ?_;rintro e g ⟨bn,b,rfl,eR,bq⟩;obtain⟨ce,y,aA,aI,aJ,br,bs,bt,bu,cf,bq,eT⟩:=bq hl;obtain⟨eX,bv⟩:=ag bq eT;have cg:Below w.heap.size w g:=cd.trans (bn.mono cd.size);have ch:=ab cg;have bx:=(bn.block _ (aa bl)).trans bl;have e0:=ab bx;have bz:=(cg.block _ (aa aj.blk)).trans aj.blk;have ci:=ab bz;obtain⟨J,ak⟩:=blk bx;obtain⟨O,aL⟩:=blk bz;have hp:=aa bx;have e1:=aa bz;have jp:w.heap.size<ay.heap.size:=aa bl;have jx:=bn.size;have hq:g.cell? ⟨w.heap.size,0,none⟩=some (.int .i64 0):=J 0;have hr:g.cell? ⟨w.heap.size,1,none⟩=some (.int .i64 0):=J 1;clear cd bl bn bq eT cg bx bz J eN;have cj:=ab ((dJ aj.txt ch));have e2:Hid (∀W,Below g.heap.size g W->Calls prog 85 #[M,.string s] W fun e w'=>e=.returned (.int .i64 (Lib.idxOfS ts s))/\w'=W):=fun W z=>lJ M ts s W ((eL cj).keep z)
 go_upto_if 34 with(go_at_call 85;refine(e2 _ ((Jj _ _).alloc (Ji _) _)).mono ?_;rintro e jY ⟨rfl,hs⟩;obtain rfl:=hs.symm)
 have bA:Below g.heap.size g (g.alloc (.cells #[.int .i64 0,.int .i64 0] 27)):=(Jj _ _).alloc (Ji _) _;have cl:(g.alloc (.cells #[.int .i64 0,.int .i64 0] 27)).heap[g.heap.size]? =some (.cells #[.int .i64 0,.int .i64 0] 27 (0,0)):=af rfl;generalize g.alloc (.cells #[.int .i64 0,.int .i64 0] 27)=aN at*;obtain⟨e3,aR,aT⟩:=aC cl bA (dJ cj bA);have aU:=(bA.block _ (aa ci)).trans ci;have bF:=ab aU;have ht:=aa cl;have hu:d<aN.heap.size:=by omega
 clear bA cl cj e2 O aL e1 hq hr ak
 go_cut [] (fun W=>aF a d aN W/\ ∃C G,Yq W a C lo av G (jF ts s)/\(C=d∨w.heap.size<=C)/\(G.ownBlock=some C∨(C=d/\G=M)))
 case first=>
  obtain⟨O,aL⟩:=blk aU;have e1:=aa aU;have e4:aN.cell? ⟨a,1,none⟩=some M:=O 1;clear aU;by_cases cp:Lib.idxOfS ts s<0
  ·have aV:decide (Lib.idxOfS ts s<0)=true:=by simpa using cp
   obtain⟨e5,e6,rfl⟩:=bi aT;obtain⟨cq,K,a0⟩:=Jq.1 lh;simp only[JB]at a0;obtain⟨a1,a2,a3⟩:=a0;obtain⟨cr,cs,ct,cu⟩:=aP K a1 a2 a3;clear K a1 a2 a3;go_wp2_with (at_builtin;refine JT _ rfl _ _ 39 rfl lo 9 cq (.string ⟨#[]⟩) 1 16 underlying39 cr cs ct cu rfl (by decide) _ _ _ rfl (aT.alloc _) ⟨aN.heap.size,0,none⟩ 1 1 [.string s] rfl rfl ?c1 ?c2 (by decide) ?c3 ?c4 ?c5 _ rfl ?_)
   case c1=>exact ge (af rfl)
   case c2=>exact tD _
   case c3=>unfold maxLen;omega
   case c4=>omega
   case c5=>first|(simp;omega)|omega
   intro P e7 j a4 A a5 hw
   have e8: ∀q,(Value.slice e5 ts.length e6).ownBlock=some q->a≠q:=fun q e a9=>by
    subst a9;rcases aT.2 with⟨hv,_⟩|⟨g',cap',cur',hv,hge,bG,_⟩
    ·rw[hv]at e;cases e
    ·rw[hv]at e;injection e with e;subst e;rw[U bF]at bG;injection bG with bG;injection bG with _ hx _;exact absurd hx (by decide)
   have bJ:j.heap[a]? =some (.cells #[av,.slice e5 ts.length e6] 159 (0,0)):=(A.block a (by simp;omega) (fun e=>e8 a e.symm rfl)).trans (ai bF)
   have hy:a≠P:=by
    rcases a5 with c|c
    ·exact e8 P c
    ·omega
   have cv:Hid (aF a d aN j):=by
    refine(Below.off2 ((Jj _ _).alloc (Ji _) (.cells #[.string s] 9))).trans ?_;rcases aj.ne with c|c
    ·rw[c]at A;exact aF.grown A
    ·rw[c]at A;exact⟨A.os,A.tape,A.output,A.size,fun k hz _ _=>A.block k hz (fun e=>by cases e)⟩
   have hA:Hid (P=d∨w.heap.size<=P):=by
    rcases a5 with c|c
    ·rcases aj.ne with Q|Q
     ·rw[Q]at c;injection c with c;exact Or.inl c.symm
     ·rw[Q]at c;cases c
    ·exact Or.inr (by omega)
   obtain⟨j0,j1⟩:=blk bJ;have j2:=aa bJ;obtain⟨hB,cz⟩:=ag bJ a4;clear a4 A a5 bJ O aL e4;go_wp2_with fail;go_meet
   case rel=>
    refine⟨cv.trans (aF.setCell a d j 1 _),P,.slice (some ⟨P,0,none⟩) (ts.length+1) e7,⟨(am hB _).trans rfl,?_,Or.inl rfl,by simpa [World.setCell]using hw⟩,hA,Or.inl rfl⟩;have cF:jF ts s=ts++[s]:=by unfold jF;rw[Jo cp]
    rw[cF,Jk,aB,Ks];exact yT cz hy _
  ·have aV:decide (Lib.idxOfS ts s<0)=false:=by simpa using cp
   go_wp2_with fail;go_meet
   case rel=>
    have cF:jF ts s=ts:=by unfold jF;rw[Jn (by omega)]
    rw[cF];exact⟨aF.refl _ _ _,d,M,⟨U bF,aT,aj.ne,hu⟩,Or.inl rfl,Or.inr ⟨rfl,rfl⟩⟩
 case rest=>
  obtain⟨al,C,G,bL,e9⟩:=hcut;generalize wc=S at*;obtain⟨a',cI⟩:=ag bL e9;have cL:aF a d w S:=((Below.off2 ch).trans (Below.off2 aR)).trans al;have e':=ab cL;have hC:Hid (aF a d g S):=(Below.off2 aR).trans al;obtain⟨fa,cN⟩:=ag (cc S cL) ((eX.keep aR).off2 al (by omega) (by omega) eR);have bN:=(al.block _ ht (by omega) (by omega)).trans e3;have bS:=(al.block w.heap.size (by omega) (by omega) (by omega)).trans ((aR.block _ hp).trans e0);obtain⟨fb,fc⟩:=ag bN bS;obtain⟨J,ak⟩:=blk bN;obtain⟨O,aL⟩:=blk bL.blk;obtain⟨hD,hE⟩:=blk bS;have hF:=aa bN;have hG:=aa bL.blk;have hH:=aa bS;obtain⟨D,E,rfl,-⟩:=id fa;have fe:S.cell? ⟨a,0,none⟩=some (.slice D T.length E):=O 0;have cR:Hid (∀W,Below S.heap.size S W->Calls prog 86 #[.agg #[.pointer (some ⟨b,0,none⟩),.slice D T.length E]] W fun e w'=>e=.returned (.tuple #[.agg #[.pointer (some ⟨b,0,none⟩),.slice D T.length E],oI R])/\Below W.heap.size W w'):=fun W z=>DH W ay.heap.size b _ T es ce y aA aI aJ br bs bt bu cf (cN.keep z) (fa.keep z) X.main bv cb ev et ex ae ax.efs R ax.eR;clear al bL e9 cL bN bS J ak O aL hD hE aU e0 e3 ci bF aT ch aR;go_wp2_with fail;obtain⟨ba,cT,fg,fk⟩:=mB R;have hI:=ab fg;rw[fg]at cR;refine(cR S (Jj _ _)).mono ?_;rintro e j ⟨rfl,F⟩;have cV:aF a d w j:=e'.trans (Below.off2 F);have cv:=ab cV;have cz:Hid (aF a d g j):=hC.trans (Below.off2 F);obtain⟨j3,j4⟩:=ag (cc j cV) (cN.keep F)
  have hJ:Hid (Yq j a C lo (.slice D T.length E) G (jF ts s)):=⟨(F.block _ hG).trans a'.blk,dJ a'.txt F,a'.ne,Js a'.lt F.size⟩
  have bX:=(F.block _ hF).trans fb;have b0:=(F.block _ hH).trans fc;obtain⟨fl,hK⟩:=ag bX b0;obtain⟨J,ak⟩:=blk bX;obtain⟨fn,fo⟩:=blk b0;have j5:=aa bX;have hL:=aa b0;have j6:=F.size;clear F cV bX b0 fb fc cR cN a' e' fe
  obtain⟨x,bb⟩: ∃x,x=((j.setCell ⟨g.heap.size,0,none⟩ (.int .i64 ba)).setCell ⟨g.heap.size,1,none⟩ (.int .i64 cT)).alloc (.cells #[.pointer (some ⟨b,0,none⟩),.slice D T.length E] 222):=⟨_,rfl⟩
  have an:aF g.heap.size g.heap.size j x:=by rw[bb];exact((aF.setCell _ _ _ _ _).trans (aF.setCell _ _ _ _ _)).trans (Below.off2 ((Jj _ _).alloc (Ji _) _))
  have hM:=ab an;have fp:Hid (PQ x ay.heap.size b ce y aA aI aJ br bs bt bu cf):=eX.off2 (cz.box an (Ji _)) (by omega) (by omega) eR;have cW:Hid (aF a d w x):=cv.box an (by omega);have cZ:Hid (Yq x a C lo (.slice D T.length E) G (jF ts s)):=hJ.box fl an (by omega);have fq:x.heap[g.heap.size]? =some (.cells #[.int .i64 ba,.int .i64 cT] 27 (0,0)):=by rw[bb];refine(ai ((am (am fl _) _).trans ?_));rfl
  have fr:x.heap[w.heap.size]? =some (.cells #[.int .i64 0,.int .i64 0] 27 (0,0)):=(an.block _ hL (by omega) (by omega)).trans hK;have fs:x.heap[j.heap.size]? =some (.cells #[.pointer (some ⟨b,0,none⟩),.slice D T.length E] 222 (0,0)):=by rw[bb];exact af (by simp[World.setCell])
  obtain⟨c0,ao,c6,c7⟩:=aP fq fr fs bb;clear bb an fq fr fs
  cases V:R with
  |some j7=>
   have ap:(ba !=0)=true:=by rw[fk,V];rfl
   go_upto_region 8 with(fail)
   rw[<-U c7];obtain⟨ft,f1⟩:=blk c0;obtain⟨hN,f2⟩:=blk ao;have fv:=aa c0;have hO:=aa ao;clear J ak fn fo
   go_region
   go_wp2;refine Jr (v:=.tuple #[.slice none 0 0,.slice none 0 0,.agg #[.int .i64 ba,.int .i64 cT]]) (by simp[results,results52,go_sem, *]) rfl ⟨cW.box (aF.two _ _ _ _) (Ji _),⟨C,G,cZ.box ao (aF.two _ _ _ _) (by omega),cI⟩,fun p k e=>by rw[U hI],(fun e=>by rw[V]at e;cases e),(fun e=>by rw[V]at e;cases e)⟩
  |none=>
   have ap:(ba !=0)=false:=by rw[fk,V];rfl
   go_upto_region 9 with(fail)
   rw[<-U c7];have c8:(x.alloc (.cells #[.int .i64 9,.int .i64 (-1)] 27)).heap[x.heap.size]? =some (.cells #[.int .i64 9,.int .i64 (-1)] 27 (0,0)):=af rfl;have L:Below x.heap.size x (x.alloc (.cells #[.int .i64 9,.int .i64 (-1)] 27)):=(Jj _ _).alloc (Ji _) _
   obtain⟨m,c9⟩: ∃m,m=x.alloc (.cells #[.int .i64 9,.int .i64 (-1)] 27):=⟨_,rfl⟩
   rw[<-c9]at c8 L;have fw:=ab c9;clear J ak fn fo c9
   go_upto_region 10 with(fail)
   rw[<-U fw];have B:=ab (fp.keep L);have fx:Hid (aF a d w m):=cW.trans (Below.off2 L);obtain⟨hP,hQ⟩:=ag (cc m fx) (cZ.below L);have fy:=(L.block _ (aa ao)).trans ao;have b1:=(L.block _ (aa c6)).trans c6;obtain⟨fz,fO,j8⟩:=aC fy c8 b1;have f':Hid (∀W,Below m.heap.size m W->Calls prog 88 #[.agg #[.pointer (some ⟨b,0,none⟩),.slice D T.length E],si br bs bt bu] W fun e w'=>Below W.heap.size W w'/\(4000<u->e=.returned (.tuple #[.slice none 0 0,.bool false]))/\(u<=4000-> ∃v n,e=.returned (.tuple #[v,.bool true])/\kV w' W.heap.size v n l)):=fun W z=>by have N:=U ax;have ga:=N.eR;rw[V]at ga;obtain⟨Q,hR⟩:=sn (gd T ae.ss) _ _ ga.symm;obtain⟨hS,hT⟩:=sn (fun e=>pG T e ae.ss) _ _ Q;have ap:=FC W ay.heap.size b _ T es ce y aA aI aJ br bs bt bu cf (B.keep z) (hP.keep z) X.main bv cb et ev ex ae N.efs hS hT hR hm hn u N.eN;rw[tW N]at ap;exact ap
   obtain⟨gb,c1,rfl⟩:=a8 B.it;obtain⟨gc,c2,rfl⟩:=a8 B.tb;obtain⟨gf,c3,rfl⟩:=a8 B.nm;obtain⟨gg,c4,rfl⟩:=a8 B.ts;have hV:=B.name;have c':=B.c14;have gi:=B.c15;have gl:=B.c16;have gm:=B.c17;have gn:=B.c18;obtain⟨dd,hW⟩:=blk b1;have df:=aa b1;have bc:=B.lt;have j9:=L.size;have gq:m.cell? ⟨j.heap.size,0,none⟩=some (.pointer (some ⟨b,0,none⟩)):=dd 0;have gr:m.cell? ⟨j.heap.size,1,none⟩=some (.slice D T.length E):=dd 1;clear L c8 fy b1 c7 fw hM fp cZ cW c0 ao c6 dd hW
   go_upto_region 14 with(fail)
   have gs:Hid (∀W,Below m.heap.size m W->W.heap.size=m.heap.size->Calls prog 88 #[.agg #[.pointer (some ⟨b,0,none⟩),.slice D T.length E],.agg #[.slice gb y.length c1,.slice gc aA.length c2,.slice gf aI.length c3,.slice gg aJ.length c4,.bool true]] W fun e w'=> ∃v q,e=.returned (.tuple #[v,.bool q])/\Below m.heap.size m w'/\q=decide (u<=4000)/\(u<=4000-> ∃n,kV w' m.heap.size v n l)):=fun W z hX=>by
    refine(f' W z).mono ?_;rintro e w' ⟨gt,Q,gw⟩;by_cases gx:4000<u
    ·exact⟨_,_,Q gx,z.trans (gt.mono (by omega)),by simp;omega,fun c=>by omega⟩
    ·obtain⟨v,n,e,hY⟩:=gw (by omega);exact⟨_,_,e,z.trans (gt.mono (by omega)),by simp;omega,fun _=>⟨n,by rw[<-hX];exact hY⟩⟩
   go_cut [13,14]from 75 to 82 (fun v q W=>Below m.heap.size m W/\q=.bool (decide (u<=4000))/\(u<=4000-> ∃n,kV W m.heap.size v n l))
   case first=>
    go_region_held3 (fun W=>W.cell? ⟨j.heap.size,0,none⟩=some (.pointer (some ⟨b,0,none⟩))/\W.cell? ⟨j.heap.size,1,none⟩=some (.slice D T.length E)/\W.cell? ⟨b,14,none⟩=some (.slice gb y.length c1)/\W.cell? ⟨b,15,none⟩=some (.slice gc aA.length c2)/\W.cell? ⟨b,16,none⟩=some (.slice gf aI.length c3)/\W.cell? ⟨b,17,none⟩=some (.slice gg aJ.length c4)/\W.cell? ⟨b,18,none⟩=some (.bool true)) (go_keep) (first
     |(go_at_call 88;refine(gs _ (by repeat(first|exact Jj _ _|apply JI)) (by simp)).mono ?_;rintro e j' ⟨ka,kb,rfl,h,gy,ar⟩;have fe:=(h.cell (p:=⟨j.heap.size,0,none⟩) df).trans gq;have e4:=(h.cell (p:=⟨j.heap.size,1,none⟩) df).trans gr;have kc:=(h.cell (p:=⟨b,14,none⟩) bc).trans c';have kd:=(h.cell (p:=⟨b,15,none⟩) bc).trans gi;have ke:=(h.cell (p:=⟨b,16,none⟩) bc).trans gl;have kf:=(h.cell (p:=⟨b,17,none⟩) bc).trans gm;have kg:=(h.cell (p:=⟨b,18,none⟩) bc).trans gn;have gJ:=ab h;have hZ:=ab ar;have dk:=ab gy;clear h ar gy))
    all_goals
     go_wp2_with fail;go_meet
     case rel=>exact⟨U gJ,by rw[U dk],hZ⟩
   case rest=>
    obtain⟨h,rfl,ar⟩:=hcut;generalize wc=H at*;have h0:=ab (B.keep h);have gQ:Hid (aF a d w H):=fx.trans (Below.off2 h);have gW:=ab (hQ.below h);have be:=(h.block _ (aa fz)).trans fz;have b2:=(h.block _ (aa fO)).trans fO;obtain⟨dp,gJ⟩:=ag be h;clear f' gs hV c' gi gl gm gn gq gr df;by_cases gx:4000<u
    ·have aV:decide (u<=4000)=false:=by simp;omega
     obtain⟨ft,f1⟩:=blk be;obtain⟨hN,f2⟩:=blk b2;have fv:=aa be;have hO:=aa b2;clear ar h be b2
     go_upto_region 16 with(fail)
     go_region
     go_wp2;exact Jr (v:=.tuple #[.slice none 0 0,.slice none 0 0,.agg #[.int .i64 9,.int .i64 (-1)]]) (by simp[results,results52,go_sem, *]) rfl ⟨gQ.box (aF.two _ _ _ _) (Ji _),⟨C,G,gW.box dp (aF.two _ _ _ _) (by omega),cI⟩,(fun p k e=>by rw[V]at e;cases e),fun _ _=>rfl,fun _ c=>by omega⟩
    ·have aV:decide (u<=4000)=true:=by simp;omega
     obtain⟨n,dq⟩:=ar (by omega);obtain⟨h1,kk,rfl⟩:=bi dq.own;have g0:=ab dq;clear ar h be b2 dq;rw[aV];clear aV;have ds:Hid (y.length=X.main.items.length):=bv.items.len;have kl:y.length<=6:=by have:=U ds;omega
     obtain⟨Y,dw⟩: ∃Y,Y=X.main.items.map fun i=>iZ i.asT:=⟨_,rfl⟩
     have g1:=ab dw;have kn:Y.length=y.length:=by rw[dw,Jm];exact ds.symm
     clear dw;obtain⟨cq,K,a0⟩:=Jq.1 lh;simp only[JB]at a0;obtain⟨a1,a2,a3⟩:=a0;obtain⟨cr,cs,ct,cu⟩:=aP K a1 a2 a3;clear K a1 a2 a3;go_wp2_with fail
     go_loopg [15,16] y.length (fun f h2 dT W=> ∃(o:Nat),o+f=y.length/\dT=.int .i64 (o:Nat)/\W.ownsRow H.heap.size 9 1 h2 o (aB (Y.take o))/\Below H.heap.size H W)
     case atStart=>exact⟨0,by omega,rfl,JF _ _ _ _,Jj _ _⟩
     case round=>
      obtain⟨o,ko,rfl,d',Z⟩:=hrel;obtain⟨h3,h4,rfl⟩:=bi d';obtain⟨ea,b3,bg⟩:=aC (h0.keep Z) d' Z;have c':=ea.c14;have kp:=ea.lt;have kq:=Z.size;clear d' Z;by_cases kr:o<y.length
      ·have h5:decide (o<y.length)=true:=by simp;omega
       obtain⟨eb,rfl⟩: ∃eb,gk=eb+1:=⟨gk-1,by omega⟩
       obtain⟨b4,b5⟩: ∃b4,X.main.items[o]? =some b4:=⟨_,Jl (by have:=U ds;omega)⟩
       obtain⟨b6,g2,g3⟩:=bv.items.at b5;obtain⟨-,-,-,-,has⟩:=g3 (cb b4 (JL b5));obtain⟨h6,ks,a9,kt,-,g4⟩:=cK (f:=AV) (k:=7) (fun _=>rfl) ea.it g2;injection a9 with a9 h7 h8;clear h7;subst a9 h8;have ku:wr.cell? ⟨h6,o*7+6,none⟩=some (.string b6.asx):=g4 6 (by omega);have h9:(0:Int)<=(o:Int):=by omega
       have h':(o:Int)<(y.length:Int):=by omega
       have ic:Hid (aB (Y.take (o+1))=aB (Y.take o)++[.string b6.asx]):=by
        have ap:Y[o]? =some b6.asx:=by
         rw[U g1,J7,b5]
         show some (iZ b4.asT)=_
         rw[DT has]
        unfold Hid;rw[K',ap,aB,Ks];rfl
       clear g4 g2 g3 b5 has;go_wp2_with (at_builtin;refine JT _ rfl _ _ 39 rfl H.heap.size 9 cq (.string ⟨#[]⟩) 1 16 underlying39 cr cs ct cu rfl (by decide) _ _ _ rfl (b3.alloc _) ⟨wr.heap.size,0,none⟩ 1 1 [.string b6.asx] rfl rfl ?c1 ?c2 (by decide) ?c3 ?c4 ?c5 _ rfl ?_)
       case c1=>exact ge (af rfl)
       case c2=>exact tD _
       case c3=>unfold maxLen;omega
       case c4=>omega
       case c5=>first|(simp;omega)|omega
       intro P e7 ih a4 A a5 _;have g6:=ab a4;have ik:Hid (Below H.heap.size H ih):=(bg.alloc bg.size _).grown A (by simp;omega) (fun q e=>(b3.lt q e).1);clear a4 A a5;go_wp2;go_roundg eb
       case measure=>simp
       case rel=>exact⟨o+1,by omega,by go_num,by rw[U ic];first|exact U g6|simpa [aB]using U g6,ik⟩
      ·have h5:decide (o<y.length)=false:=by simp;omega
       rw[JJ (by omega)]at b3;have g7:=ab (g0.keep bg);have ed:Hid (n.length=l.length):=g0.len;have g8:Hid (∀r∈l,r.length<=1000):=fun r I=>by rw[<-tW (U ax)]at I;obtain⟨kv,-,rfl⟩:=KM.1 I;unfold im;rw[Jm];omega
       have kw:l.length<=4000:=by
        rw[<-tW (U ax),Jm];have gw:(dK T ae.ss X.main u).length<=u:=by unfold dK;exact Jt (Lz _ _) (by simp)
        omega
       have kx:n.length<=4000:=by have:=U ed;omega
       generalize il:wr=au at*;clear il;go_wp2_with fail
       go_loopg [17,18] n.length (fun f g9 dT W=> ∃(i:Nat),i+f=n.length/\dT=.int .i64 (i:Nat)/\bZ W g9 ((l.take i).foldl eu [])/\((l.take i).foldl eu []).length<=lX g9/\Below au.heap.size au W)
       case atStart=>exact⟨0,by omega,rfl,⟨[],⟨none,0,rfl,KO _,fun c=>by simp at c⟩,rfl,fun k r ac c=>by simp at c⟩,by simp,Jj _ _⟩
       case round=>
        obtain⟨i,ky,rfl,ef,ha,Z⟩:=hrel;obtain⟨hb,hc,rfl⟩:=ef.len;obtain⟨hd,ip,ad⟩:=aC ef ha Z;clear ef ha Z;by_cases K:i<n.length
        ·have iq:decide (i<n.length)=true:=by simp;omega
         obtain⟨eg,rfl⟩: ∃eg,gk=eg+1:=⟨gk-1,by omega⟩
         have he:=U ed
         obtain⟨ac,ei⟩: ∃ac,n[i]? =some ac:=⟨_,Jl K⟩
         obtain⟨r,I⟩: ∃r,l[i]? =some r:=⟨_,Jl (by omega)⟩
         have ir:=ab ((eL (g7.at' i ac r ei I)).keep ad);obtain⟨hf,it,rfl,iv,hg⟩: ∃q b7,h1=some ⟨q,b7,none⟩/\q<au.heap.size/\au.cell? ⟨q,b7+i,none⟩=some ac:=by obtain⟨kz,kF,en,-,eo⟩:=eL g7.own;injection en with en k0 k1;subst en;obtain⟨q,b7,rfl,iw,eo⟩:=eo (by omega);exact⟨q,b7,rfl,iw,by rw[eo i K];exact ei⟩
         have k2:=(ad.cell (p:=⟨hf,it+i,none⟩) iv).trans hg;have k3:hf<wr.heap.size:=by have:=ad.size;omega
         have h9:(0:Int)<=(i:Int):=by omega
         have h':(i:Int)<(n.length:Int):=by omega
         have ix:Hid ((l.take (i+1)).foldl eu []=eu ((l.take i).foldl eu []) r):=by unfold Hid;rw[K',I,LO];rfl
         have ep:((l.take i).foldl eu []).Perm (l.take i):=by rw[tU];exact LJ _ _
         have iA:Hid (∀W,Below wr.heap.size wr W->Calls prog 89 #[.slice hb ((l.take i).foldl eu []).length hc,ac,.bool false] W fun e w'=> ∃eq,e=.returned eq/\bZ w' eq ((l.take (i+1)).foldl eu [])/\((l.take (i+1)).foldl eu []).length<=lX eq/\Below W.heap.size W w'):=fun W z=>by rw[U ix];exact DM W _ ac _ r (hd.keep z) (ir.keep z) (by rw[ep.length_eq,JU];omega) ip (fun r I=>(U g8) r (Mx (ep.mem_iff.1 I))) (g8 r (JL I))
         clear ei I hg ep he;go_wp2_with (go_at_call 89;refine(iA _ (Jj _ _)).mono ?_;rintro e i0 ⟨k4,rfl,hh,hi,hj⟩);obtain⟨i1,i2⟩:=ag hh hi;have dk:Hid (Below au.heap.size au i0):=ad.trans (hj.mono ad.size);clear hh hi hj;go_wp2;go_roundg eg
         case measure=>simp
         case rel=>exact⟨i+1,by omega,by go_num,i1,i2,dk⟩
        ·have iq:decide (i<n.length)=false:=by simp;omega
         have i3:Hid ((l.take i).foldl eu []=iY l):=by have he:=U ed;unfold Hid;rw[JJ (by omega),tU]
         have b9:Below H.heap.size H wr:=bg.trans (ad.mono bg.size);have i4:Hid (aF a d w wr):=gQ.trans (Below.off2 b9);have i5:=ab (gW.below b9);have b':=(b9.block _ (aa dp)).trans dp;obtain⟨ca,i6⟩:=ag b' ((eL b3).keep ad);obtain⟨ft,f1⟩:=blk b';have fv:=aa b';clear b9 b';go_wp2;refine Jr (v:=.tuple #[.slice h3 o h4,.slice hb ((l.take i).foldl eu []).length hc,.agg #[.int .i64 0,.int .i64 0]]) (by simp[results,results52,go_sem, *]) rfl ⟨i4.trans (Below.off2 (po ca)),⟨C,G,i5.below (po ca),cI⟩,(fun p k e=>by rw[V]at e;cases e),(fun _ c=>by omega),fun _ _=>⟨_,_,rfl,?_,by rw[<-U i3];exact hd.keep (po ca)⟩⟩;rw[<-U g1];exact i6.keep (po ca)
theorem G1(w:World)(q:Nat)(s:ByteArray)(a b:Int)(x:(a !=0)=true)(n: ∀W,Calls prog 39 #[.string s] W fun e w'=>e=.returned (.tuple #[.pointer none,.agg #[.int .i64 a,.int .i64 b]])/\Below W.heap.size W w'):
  Calls prog 52 #[.pointer (some ⟨q,0,none⟩),.string s] w fun e w'=>e=.returned (.tuple #[.slice none 0 0,.slice none 0 0,.agg #[.int .i64 a,.int .i64 b]])/\Below w.heap.size w w':=by
 have o:=ab n;clear n;go_enter func52,ntmps52;go_wp2_with fail;have g:Below w.heap.size w (w.alloc (.cells #[.int .i64 0,.int .i64 0] 27)):=(Jj _ _).alloc (Ji _) _;have hz:(w.alloc (.cells #[.int .i64 0,.int .i64 0] 27)).heap[w.heap.size]? =some (.cells #[.int .i64 0,.int .i64 0] 27 (0,0)):=af rfl;generalize w.alloc (.cells #[.int .i64 0,.int .i64 0] 27)=r at*;refine(o r).mono ?_;rintro e c ⟨rfl,i⟩;have j:Below w.heap.size w c:=g.trans (i.mono g.size);have y:=ab j;have k:=(i.block _ (aa hz)).trans hz;have z:=aa k;have l:Below w.heap.size w (c.alloc (.cells #[.int .i64 a,.int .i64 b] 27)):=j.alloc (by omega) _;have d:(c.alloc (.cells #[.int .i64 a,.int .i64 b] 27)).heap[c.heap.size]? =some (.cells #[.int .i64 a,.int .i64 b] 27 (0,0)):=af rfl;have f:(c.alloc (.cells #[.int .i64 a,.int .i64 b] 27)).heap[w.heap.size]? =some (.cells #[.int .i64 0,.int .i64 0] 27 (0,0)):=ai k
 obtain⟨p,m⟩: ∃p,p=c.alloc (.cells #[.int .i64 a,.int .i64 b] 27):=⟨_,rfl⟩
 rw[<-m]at l d f;obtain⟨t,u⟩:=ag m l;clear g hz i j k o m l;go_wp2_with fail;rw[<-U t];obtain⟨A,f1⟩:=blk d;obtain⟨B,f2⟩:=blk f;have C:=aa d;have D:=aa f;clear d f
 go_region
 go_wp2;refine Jr (v:=.tuple #[.slice none 0 0,.slice none 0 0,.agg #[.int .i64 a,.int .i64 b]]) (by simp[results,results52,go_sem, *]) rfl ⟨rfl,?_⟩;exact((u.setCell (Ji _) _).setCell (Ji _) _).drew
theorem tX(w:World)(b c lo:Nat)(d f:Value)(ts:List ByteArray)(a:Yq w b c lo d f ts):
  Calls prog 30 #[.pointer (some ⟨b,0,none⟩)] w fun e w'=>e=.returned (.int .i64 (ts.length:Nat))/\w'=w:=by
 obtain⟨g,hz,rfl⟩:=bi a.txt;obtain⟨i,j⟩:=blk a.blk;have k:=aa a.blk;clear a;go_enter func30,ntmps30;go_wp2;go_ret;exact⟨rfl,rfl⟩
theorem qw(a b:Value)(l m:List (List Int))(w:World)(ae:bZ w a l)(aj:bZ w b m)(a0:l.length<=100000):
  Calls prog 23 #[a,b] w fun e w'=>e=.returned (.bool (decide (l=m)))/\Below w.heap.size w w':=by
 obtain⟨ak,⟨a1,a2,rfl,K,v⟩,x,L⟩:=ae;obtain⟨al,⟨a3,a4,rfl,M,y⟩,z,N⟩:=aj;rw[x]at K v⊢;rw[z]at M y⊢;obtain⟨an,ao,ap,ar,au,av⟩:=io v y L N x z;unfold maxLen at K M;clear v y L N x z;by_cases A:l.length=m.length
 ·have O:((l.length:Int) !=(m.length:Int))=false:=by simp;omega
  have i:=ab A;clear A;go_enter func23,ntmps23;go_wp2_with fail;clear O
  go_loopg [5,6] l.length (fun ax ay _ aA=> ∃c d,l=c++d/\ax=d.length/\ay=.int .i64 (c.length:Nat)/\c=m.take c.length/\Below w.heap.size w aA)
  case atStart=>exact⟨[],l,rfl,rfl,rfl,by simp,Jj _ _⟩
  case round=>
   obtain⟨c,d,B,rfl,rfl,P,Q⟩:=hrel;have n:c.length+d.length=l.length:=by rw[B,Jk]
   obtain⟨o,R,f⟩:=aC B P Q;clear B P Q
   cases d with
   |nil=>
    have aI:decide ((c.length:Int)<(l.length:Int))=false:=by simp at n⊢;omega
    have a5:decide (c.length<l.length)=false:=by simp at n⊢;omega
    clear n;go_wp2;go_ret;refine⟨?_,f⟩
    have e:l=m:=by
     have S:l=c:=by rw[U o,JD]
     rw[S,R,<-S,i,LC]
    rw[Ko e];rfl
   |cons g d=>
    rw[Ju]at n;have aI:decide ((c.length:Int)<(l.length:Int))=true:=by simp;omega
    have aJ:Hid (l=(c++[g])++d):=by unfold Hid;rw[U o];simp
    obtain⟨hz,C⟩: ∃hz,m[c.length]? =some hz:=⟨_,Jl (by have:=U i;omega)⟩
    obtain⟨j,D,rfl,T,V⟩:=(U an) (by omega)
    obtain⟨k,E,rfl,W,X⟩:=(U ao) (by have:=U i;omega)
    obtain⟨q,F⟩: ∃q,ak[c.length]? =some q:=⟨_,Jl (by rw[U au];omega)⟩
    obtain⟨r,G⟩: ∃r,al[c.length]? =some r:=⟨_,Jl (by rw[U av];have:=U i;omega)⟩
    obtain⟨H,I⟩:=ag ((ap c.length g q (by rw[U o];simp) F).keep f) ((ar c.length hz r C G).keep f);have Y:wr.cell? ⟨j,D+c.length,none⟩=some q:=by rw[f.cell (p:=⟨j,_,none⟩) T,V _ (by omega),F]
    have Z:wr.cell? ⟨k,E+c.length,none⟩=some r:=by rw[f.cell (p:=⟨k,_,none⟩) W,X _ (by have:=U i;omega),G]
    obtain⟨aD,aL,rfl,-,-⟩:=U H;obtain⟨aN,aR,rfl,-,-⟩:=U I;rw[Jm]at H I Y Z;have a9:(0:Int)<=(c.length:Int):=by omega
    have a':(c.length:Int)<(l.length:Int):=by omega
    have ba:(c.length:Int)<(m.length:Int):=by have:=U i;omega
    have ac:=ab C;have aT:j<wr.heap.size:=Js T f.size;have aU:k<wr.heap.size:=Js W f.size;clear V X F G C;go_wp2_with fail
    go_region_held3 (fun w'=>w'.cell? ⟨j,D+c.length,none⟩=some (.slice aD g.length aL)/\w'.cell? ⟨k,E+c.length,none⟩=some (.slice aN hz.length aR)) (go_keep) (first|(go_at_call 45;refine(kE _ _ g hz _ (by exact H.keep (Jj _ _).drew) (by exact I.keep (Jj _ _).drew)).mono ?_;rintro e aV ⟨rfl,s⟩;have bb:=(s.cell (p:=⟨j,D+c.length,none⟩) aT).trans Y;have bc:=(s.cell (p:=⟨k,E+c.length,none⟩) aU).trans Z;have ad:Hid (Below w.heap.size w aV):=f.drew.trans (s.mono f.size);clear s))
    cases t:decide (g=hz)with
    |true=>
     have J:=ab t;clear t;go_wp2;go_roundg d.length
     case measure=>simp
     case rel=>
      refine⟨c++[g],d,aJ,rfl,?_,?_,ad⟩
      ·rw[Jk];go_num
      ·have e:g=hz:=by simpa using U J
       rw[Jk,JZ,K',<-U R,ac,e];rfl
    |false=>
     have J:=ab t;clear t;go_wp2;go_ret;refine⟨?_,ad⟩
     have e: ¬l=m:=fun e=>by
      have u:l[c.length]? =some g:=by rw[U o];simp
      rw[e,U ac]at u;injection u with u;have:=U J;simp[u]at this
     rw[LY e];rfl
 ·have O:((l.length:Int) !=(m.length:Int))=true:=by simp;omega
  go_enter func23,ntmps23;go_wp2;go_ret;refine⟨?_,Jj _ _⟩;rw[LY (fun e=>A (by rw[e]))];rfl
theorem DU(w:World):(binOp .eql 39 (.slice none 0 0) (.slice none 0 0)).run prog w=.ok (.bool true) w:=by kernel_rfl
theorem FH(w:World):(binOp .eql 42 (.slice none 0 0) (.slice none 0 0)).run prog w=.ok (.bool true) w:=by kernel_rfl
theorem qx:prog.eqGuardType prog.depth 27=false:=by kernel_rfl
theorem tY(n p:Int)(w:World):(Op.equalIn 10000 27 (.agg #[.int .i64 n,.int .i64 p]) (.agg #[.int .i64 n,.int .i64 p])).run prog w=.ok true w:=by
 have u3:=underlying3;have c:=isAgg3;have d:=sizeOf3;have a:prog.underlying 27=some (.struct (prog.fieldsOf 27)):=by kernel_rfl
 have b:prog.stoodInHeld 27=false:=by kernel_rfl
 rw[show(10000:Nat)=9999+1 from rfl,run_equalIn_agg w 9999 27 _ _ a b];simp only[Program.fieldsOf,underlying27]
 go_simp
theorem B7(w:World)(bx c y:Nat)(bu:c<w.heap.size)(bv:y<w.heap.size)(g:Option Addr)(hz i:Nat)(j:Option Addr)(k l:Nat)(s:ByteArray)(n p:Int)(d:List ByteArray)(rows:List (List Int))(o:World->Prop)(aT:rows.length<=100000)
  (V: ∀W,Below w.heap.size w W->Calls prog 52 #[.pointer (some ⟨c,0,none⟩),.string s] W fun e w'=> ∃E F,e=.returned (.tuple #[E,F,.agg #[.int .i64 n,.int .i64 p]])/\aS w' E (aB d)/\bZ w' F rows/\aS w' (.slice g hz i) (aB d)/\bZ w' (.slice j k l) rows/\aF c y W w'/\o w')
  (X: ∀W W',Below W.heap.size W W'->o W->o W') (b: ∀W,o W->Calls prog 15 #[.nilIface] W fun e w'=>e=.returned (.agg #[.int .i64 n,.int .i64 p])/\Below W.heap.size W w'):
  Calls prog 26 #[.agg #[.pointer (some ⟨bx,0,none⟩),.pointer (some ⟨c,0,none⟩)],.agg #[.slice g hz i,.slice j k l],.nilIface,.string s] w fun e w'=>e=.returned (.bool true)/\aF c y w w'/\o w':=by
 obtain⟨Y,Z,aU⟩:=aC V X b;clear V X b;go_enter func26,ntmps26;go_wp2_with fail
 obtain⟨q,z⟩: ∃q,q=(w.alloc (.cells #[.pointer (some ⟨bx,0,none⟩),.pointer (some ⟨c,0,none⟩)] 57)).alloc (.cells #[.slice g hz i,.slice j k l] 68):=⟨_,rfl⟩
 rw[<-z];have G:Below w.heap.size w q:=by rw[z];exact((Jj _ _).alloc (Ji _) _).alloc (by simp) _
 have H:q.heap[w.heap.size+1]? =some (.cells #[.slice g hz i,.slice j k l] 68 (0,0)):=by rw[z];exact af (by simp)
 clear z;refine(Y q G).mono ?_;rintro e a ⟨E,F,rfl,I,J,ac,ad,K,ae⟩;obtain⟨aV,a0,rfl,-⟩:=id I;have a1:=J;obtain⟨a2,⟨a3,a4,rfl,-⟩,-⟩:=a1;have aj:=aa H;have L:=(K.block _ aj (by omega) (by omega)).trans H;have a5:=ab L;have a9:Hid (aF c y w a):=(Below.off2 G).trans K;obtain⟨a',ba,bb,bc,ak⟩:=dD I J ac ad ae;have be:=aa L;clear G H I J ac ad K ae L Y aj;go_wp2_with fail
 obtain⟨r,A⟩: ∃r,r=a.alloc (.cells #[.int .i64 n,.int .i64 p] 27):=⟨_,rfl⟩
 rw[<-A];have t:Below a.heap.size a r:=by rw[A];exact(Jj _ _).alloc (Ji _) _
 have M:r.heap[a.heap.size]? =some (.cells #[.int .i64 n,.int .i64 p] 27 (0,0)):=by rw[A];exact af rfl
 have bz:=ab t;have bg:Hid (∀W,Below a.heap.size a W->Calls prog 53 #[.slice g hz i,.slice aV d.length a0] W fun e w'=>e=.returned (.bool true)/\Below W.heap.size W w'):=fun W b=>by have u:=lW _ _ d d W (bb.keep b) (a'.keep b);rw[Ko rfl,show(aB d).length=d.length by simp[aB]]at u;exact u
 have bk:Hid (∀W,Below a.heap.size a W->Calls prog 23 #[.slice j k l,.slice a3 a2.length a4] W fun e w'=>e=.returned (.bool true)/\Below W.heap.size W w'):=fun W b=>by have u:=qw _ _ rows rows W (bc.keep b) (ba.keep b) aT;rw[Ko rfl]at u;exact u
 clear A;refine(aU r (Z _ _ t ak)).mono ?_;rintro e N ⟨rfl,O⟩;have B:Below a.heap.size a N:=t.trans (O.mono t.size);have C:=(B.block _ be).trans a5;have al:=(O.block _ (aa M)).trans M
 obtain⟨f,m⟩: ∃f,f=N.alloc (.cells #[.int .i64 n,.int .i64 p] 27):=⟨_,rfl⟩
 have an:Below a.heap.size a f:=by rw[m];exact B.alloc B.size _
 have ao:f.heap[w.heap.size+1]? =some (.cells #[.slice g hz i,.slice j k l] 68 (0,0)):=by rw[m];exact ai C
 have ap:f.heap[a.heap.size]? =some (.cells #[.int .i64 n,.int .i64 p] 27 (0,0)):=by rw[m];exact ai al
 have ar:f.heap[N.heap.size]? =some (.cells #[.int .i64 n,.int .i64 p] 27 (0,0)):=by rw[m];exact af rfl
 obtain⟨au,P,av,ax,ay⟩:=dD m an ao ap ar;obtain⟨bl,bn⟩:=blk C;have bq:=aa C;clear t M O B C al m an ao ap ar;go_wp2_with fail;rw[<-U au];refine(bg f P).mono ?_;rintro e aA ⟨rfl,v⟩;have Q:Hid (Below a.heap.size a aA):=P.trans (v.mono P.size);have D:=(v.block _ (aa av)).trans av;obtain⟨br,aI,aJ⟩:=aC D ((v.block _ (aa ax)).trans ax) ((v.block _ (aa ay)).trans ay);obtain⟨bs,bt⟩:=blk D;have aL:=aa D;clear v D bl bn bq au;go_wp2_with fail;refine(bk aA Q).mono ?_;rintro e aN ⟨rfl,x⟩;have aR:Hid (Below a.heap.size a aN):=Q.trans (x.mono Q.size);have R:=(x.block _ aL).trans br;have S:=(x.block _ (aa aI)).trans aI;have T:=(x.block _ (aa aJ)).trans aJ;obtain⟨bA,bF⟩:=blk R;obtain⟨bG,bJ⟩:=blk S;obtain⟨bL,bN⟩:=blk T;have bS:=aa R;have bX:=aa S;have b0:=aa T;have b1:=tY n p aN;have b2:=qx;clear x R S T bs bt aL;go_wp2;go_ret;exact⟨rfl,a9.trans (Below.off2 aR),(U Z) _ _ aR ak⟩
theorem Ai(w:World)(bx c q:Nat)(bs:c<w.heap.size)(bt:q<w.heap.size)(t:TypeId)(v:Value)(A: ∀W,(binOp .eql 23 (.iface t v) .nilIface).run prog W=.ok (.bool false) W)(s:ByteArray)(n p:Int)(d:List ByteArray)(rows:List (List Int))(hz:World->Prop)(aL:rows.length<=100000)
  (R: ∀W,Below w.heap.size w W->Calls prog 52 #[.pointer (some ⟨c,0,none⟩),.string s] W fun e w'=> ∃B C,e=.returned (.tuple #[B,C,.agg #[.int .i64 n,.int .i64 p]])/\aS w' B (aB d)/\bZ w' C rows/\aS w' (.slice none 0 0) (aB d)/\bZ w' (.slice none 0 0) rows/\aF c q W w'/\hz w')
  (S: ∀W W',Below W.heap.size W W'->hz W->hz W') (b: ∀W,hz W->Calls prog 15 #[(.iface t v)] W fun e w'=>e=.returned (.agg #[.int .i64 n,.int .i64 p])/\Below W.heap.size W w'):
  Calls prog 26 #[.agg #[.pointer (some ⟨bx,0,none⟩),.pointer (some ⟨c,0,none⟩)],.agg #[.slice none 0 0,.slice none 0 0],(.iface t v),.string s] w fun e w'=>e=.returned (.bool true)/\aF c q w w'/\hz w':=by
 obtain⟨T,V,aN,aR⟩:=aP R S b A;clear R S b A;go_enter func26,ntmps26;go_wp2_with fail
 obtain⟨i,r⟩: ∃i,i=(w.alloc (.cells #[.pointer (some ⟨bx,0,none⟩),.pointer (some ⟨c,0,none⟩)] 57)).alloc (.cells #[.slice none 0 0,.slice none 0 0] 68):=⟨_,rfl⟩
 rw[<-r];have D:Below w.heap.size w i:=by rw[r];exact((Jj _ _).alloc (Ji _) _).alloc (by simp) _
 have E:i.heap[w.heap.size+1]? =some (.cells #[.slice none 0 0,.slice none 0 0] 68 (0,0)):=by rw[r];exact af (by simp)
 clear r;refine(T i D).mono ?_;rintro e a ⟨B,C,rfl,F,G,X,Y,H,Z⟩;obtain⟨aT,aU,rfl,-⟩:=id F;have aV:=G;obtain⟨a0,⟨a1,a2,rfl,-⟩,-⟩:=aV;have ac:=aa E;have I:=(H.block _ ac (by omega) (by omega)).trans E;have a3:=ab I;have a4:Hid (aF c q w a):=(Below.off2 D).trans H;obtain⟨a5,a9,a',ba,ad⟩:=dD F G X Y Z;have bb:=aa I;clear D E F G X Y H Z I T ac;go_wp2_with fail
 obtain⟨j,u⟩: ∃j,j=a.alloc (.cells #[.int .i64 n,.int .i64 p] 27):=⟨_,rfl⟩
 rw[<-u];have k:Below a.heap.size a j:=by rw[u];exact(Jj _ _).alloc (Ji _) _
 have J:j.heap[a.heap.size]? =some (.cells #[.int .i64 n,.int .i64 p] 27 (0,0)):=by rw[u];exact af rfl
 have bu:=ab k;have bc:Hid (∀W,Below a.heap.size a W->Calls prog 53 #[.slice none 0 0,.slice aT d.length aU] W fun e w'=>e=.returned (.bool true)/\Below W.heap.size W w'):=fun W b=>by have l:=lW _ _ d d W (a'.keep b) (a5.keep b);rw[Ko rfl,show(aB d).length=d.length by simp[aB]]at l;exact l
 have be:Hid (∀W,Below a.heap.size a W->Calls prog 23 #[.slice none 0 0,.slice a1 a0.length a2] W fun e w'=>e=.returned (.bool true)/\Below W.heap.size W w'):=fun W b=>by have l:=qw _ _ rows rows W (ba.keep b) (a9.keep b) aL;rw[Ko rfl]at l;exact l
 clear u;refine(aN j (V _ _ k ad)).mono ?_;rintro e K ⟨rfl,L⟩;have x:Below a.heap.size a K:=k.trans (L.mono k.size);have y:=(x.block _ bb).trans a3;have ae:=(L.block _ (aa J)).trans J
 obtain⟨f,g⟩: ∃f,f=K.alloc (.cells #[.int .i64 n,.int .i64 p] 27):=⟨_,rfl⟩
 have aj:Below a.heap.size a f:=by rw[g];exact x.alloc x.size _
 have ak:f.heap[w.heap.size+1]? =some (.cells #[.slice none 0 0,.slice none 0 0] 68 (0,0)):=by rw[g];exact ai y
 have al:f.heap[a.heap.size]? =some (.cells #[.int .i64 n,.int .i64 p] 27 (0,0)):=by rw[g];exact ai ae
 have an:f.heap[K.heap.size]? =some (.cells #[.int .i64 n,.int .i64 p] 27 (0,0)):=by rw[g];exact af rfl
 obtain⟨ao,M,ap,ar,au⟩:=dD g aj ak al an;obtain⟨bg,bk⟩:=blk y;have bl:=aa y;clear k J L x y ae g aj ak al an;go_wp2_with fail;rw[<-U ao];refine(bc f M).mono ?_;rintro e av ⟨rfl,m⟩;have N:Hid (Below a.heap.size a av):=M.trans (m.mono M.size);have z:=(m.block _ (aa ap)).trans ap;obtain⟨bn,ax,ay⟩:=aC z ((m.block _ (aa ar)).trans ar) ((m.block _ (aa au)).trans au);obtain⟨bq,br⟩:=blk z;have aA:=aa z;clear m z bg bk bl ao;go_wp2_with fail;refine(be av N).mono ?_;rintro e aI ⟨rfl,o⟩;have aJ:Hid (Below a.heap.size a aI):=N.trans (o.mono N.size);have O:=(o.block _ aA).trans bn;have P:=(o.block _ (aa ax)).trans ax;have Q:=(o.block _ (aa ay)).trans ay;obtain⟨bv,bz⟩:=blk O;obtain⟨bA,bF⟩:=blk P;obtain⟨bG,bJ⟩:=blk Q;have bL:=aa O;have bN:=aa P;have bS:=aa Q;have bX:=tY n p aI;have b0:=qx;have A:=U aR;clear o O P Q bq br aA;have b1:=DU;have b2:=FH;go_wp2;go_ret;exact⟨rfl,a4.trans (Below.off2 aJ),(U V) _ _ aJ ad⟩
end
end Go.Proofs.YtfkeddkfegaeiaaGreatDoor
