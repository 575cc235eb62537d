import Derived.Test.YtfkeddkfegaeiaaGreatDoorPnRiC
set_option maxRecDepth 100000
set_option maxHeartbeats 20000000
namespace Go.Proofs.YtfkeddkfegaeiaaGreatDoor
section
open Go.RowKit Tryz
def tR(lo b:Nat)(c:Value)(T:List Tb)(i:List RE)(j:List RI)(k l:List RT)(rs:List RP)(d e f g m:Value)(rows:List (List Int))(n:Int)(o:Int):Prop:= ∀a h,PQ a lo b i j k l rs d e f g m->bp a c T->bZ a h rows->Calls prog 132 #[.agg #[.pointer (some ⟨b,0,none⟩),c],si d e f g,.int .i64 n,h] a fun p q=>p=.returned (.int .i64 o)/\Below a.heap.size a q
theorem Fw(lo e:Nat)(hz:Value)(T:List Tb)(g:List RE)(i:List RI)(j l:List RT)(rs:List RP)(m o p q s:Value)(rows:List (List Int))(n:Nat)(r:RE)(hn:g[n]? =some r)(t:r.sg=⟨#[]⟩):tR lo e hz T g i j l rs m o p q s rows (n:Int) r.nu:=by
 intro a w d u v;obtain⟨x,y,rfl,-⟩:=u;obtain⟨z,⟨A,B,rfl,-,-⟩,-,-⟩:=v;obtain⟨C,D,E,rfl⟩:=bO d.it;obtain⟨F,G,H,rfl⟩:=bO d.tb;obtain⟨I,J,K,rfl⟩:=bO d.nm;obtain⟨L,M,N,rfl⟩:=bO d.ts;obtain⟨b,O,rfl,P,Q,c⟩:=cK (f:=tJ) (k:=10) (fun _=>rfl) d.ex hn;have R:a.cell? ⟨b,n*10,none⟩=some (.string ⟨#[]⟩):=by rw[<-t];exact c 0 (by omega)
 have S:a.cell? ⟨b,n*10+1,none⟩=some (.int .i64 r.nu):=c 1 (by omega);have V:a.cell? ⟨b,n*10+2,none⟩=some (.int .i64 r.k1):=c 2 (by omega);have W:a.cell? ⟨b,n*10+3,none⟩=some (.int .i64 r.a1):=c 3 (by omega);have X:a.cell? ⟨b,n*10+4,none⟩=some (.string r.s1):=c 4 (by omega);have Y:a.cell? ⟨b,n*10+5,none⟩=some (.int .i64 r.k2):=c 5 (by omega);have Z:a.cell? ⟨b,n*10+6,none⟩=some (.int .i64 r.a2):=c 6 (by omega);have ac:a.cell? ⟨b,n*10+7,none⟩=some (.string r.s2):=c 7 (by omega);have ad:a.cell? ⟨b,n*10+8,none⟩=some (.int .i64 r.A):=c 8 (by omega);have ae:a.cell? ⟨b,n*10+9,none⟩=some (.int .i64 r.B):=c 9 (by omega);have aj:=d.c21;have ak:=d.lt;have al:e<a.heap.size+1:=by omega
 have an:e<a.heap.size+1+1:=by omega
 have ao:b<a.heap.size+1:=by omega
 have ap:b<a.heap.size+1+1:=by omega
 have u1:(0:Int)<=(n:Int):=by omega
 have u2:(n:Int)<(g.length:Int):=by omega
 clear d c;go_enter func132,ntmps132;go_wp2;go_ret;refine⟨rfl,?_⟩;exact(((Jj _ _).alloc (Ji _) _).alloc (by simp) _).alloc (by simp;omega) _
theorem BT(lo e:Nat)(i:Value)(T:List Tb)(hz:List RE)(j:List RI)(l m:List RT)(rs:List RP)(o p q s t:Value)(rows:List (List Int))(n:Nat)(r:RE)(hn:hz[n]? =some r)(z:r.sg=⟨#[45]⟩)(A:r.B= -1)(u:Int)(v:tR lo e i T hz j l m rs o p q s t rows r.A u):tR lo e i T hz j l m rs o p q s t rows (n:Int) (wrap64 (-u)):=by
 intro a X d w x;obtain⟨B,C,D,E⟩:=aP d w x v;obtain⟨F,G,rfl,-⟩:=w;obtain⟨Y,⟨Z,ac,rfl,-,-⟩,-,-⟩:=x;obtain⟨H,I,J,rfl⟩:=bO d.it;obtain⟨K,L,M,rfl⟩:=bO d.tb;obtain⟨N,O,P,rfl⟩:=bO d.nm;obtain⟨Q,R,S,rfl⟩:=bO d.ts;obtain⟨b,ad,rfl,ae,aj,c⟩:=cK (f:=tJ) (k:=10) (fun _=>rfl) d.ex hn;have ak:a.cell? ⟨b,n*10,none⟩=some (.string ⟨#[45]⟩):=by rw[<-z];exact c 0 (by omega)
 have al:a.cell? ⟨b,n*10+1,none⟩=some (.int .i64 r.nu):=c 1 (by omega);have an:a.cell? ⟨b,n*10+2,none⟩=some (.int .i64 r.k1):=c 2 (by omega);have ao:a.cell? ⟨b,n*10+3,none⟩=some (.int .i64 r.a1):=c 3 (by omega);have ap:a.cell? ⟨b,n*10+4,none⟩=some (.string r.s1):=c 4 (by omega);have ar:a.cell? ⟨b,n*10+5,none⟩=some (.int .i64 r.k2):=c 5 (by omega);have au:a.cell? ⟨b,n*10+6,none⟩=some (.int .i64 r.a2):=c 6 (by omega);have av:a.cell? ⟨b,n*10+7,none⟩=some (.string r.s2):=c 7 (by omega);have ax:a.cell? ⟨b,n*10+8,none⟩=some (.int .i64 r.A):=c 8 (by omega);have ay:a.cell? ⟨b,n*10+9,none⟩=some (.int .i64 (-1)):=by rw[<-A];exact c 9 (by omega)
 have aA:=d.c21;have aI:=d.lt;have aJ:e<a.heap.size+1:=by omega
 have aL:e<a.heap.size+1+1:=by omega
 have aN:b<a.heap.size+1:=by omega
 have aR:b<a.heap.size+1+1:=by omega
 have u1:(0:Int)<=(n:Int):=by omega
 have u2:(n:Int)<(hz.length:Int):=by omega
 clear d c v;go_enter func132,ntmps132;go_wp2_with fail;have g:Hid (Below a.heap.size a (((a.alloc (.cells #[.pointer (some ⟨e,0,none⟩),.slice F T.length G] 222)).alloc (.cells #[.slice H I J,.slice K L M,.slice N O P,.slice Q R S,.bool true] 105)).alloc (.cells #[.string ⟨#[45]⟩,.int .i64 r.nu,.int .i64 r.k1,.int .i64 r.a1,.string r.s1,.int .i64 r.k2,.int .i64 r.a2,.string r.s2,.int .i64 r.A,.int .i64 (-1)] 374))):=(((Jj _ _).alloc (Ji _) _).alloc (by simp) _).alloc (by simp;omega) _;refine(E _ _ (B.keep g) (C.keep g) (D.keep g)).mono ?_;rintro aT V ⟨rfl,y⟩;have W:Hid (Below a.heap.size a V):=g.trans (y.mono g.size);clear y;go_wp2;go_ret;exact⟨rfl,W⟩
theorem DI(lo l:Nat)(s:Value)(T:List Tb)(o:List RE)(t:List RI)(u v:List RT)(rs:List RP)(w x y z A:Value)(rows:List (List Int))(n:Nat)(r:RE)(hn:o[n]? =some r)(b:ByteArray)(E:r.sg=b)(F:b=⟨#[42]⟩∨b∈kj)(bl:0<=r.B)(g i:Int)(G:tR lo l s T o t u v rs w x y z A rows r.A g)(H:tR lo l s T o t u v rs w x y z A rows r.B i):tR lo l s T o t u v rs w x y z A rows (n:Int) (iK b g i):=by
 intro a bn e I J;obtain⟨K,L,M,P,Q⟩:=dD e I J G H;obtain⟨R,S,rfl,-⟩:=I;obtain⟨bq,⟨br,bs,rfl,-,-⟩,-,-⟩:=J;obtain⟨V,W,X,rfl⟩:=bO e.it;obtain⟨Y,Z,ac,rfl⟩:=bO e.tb;obtain⟨ad,ae,aj,rfl⟩:=bO e.nm;obtain⟨ak,al,an,rfl⟩:=bO e.ts;obtain⟨c,bt,rfl,ao,bu,d⟩:=cK (f:=tJ) (k:=10) (fun _=>rfl) e.ex hn;have ap:a.cell? ⟨c,n*10,none⟩=some (.string b):=by rw[<-E];exact d 0 (by omega)
 have ar:a.cell? ⟨c,n*10+1,none⟩=some (.int .i64 r.nu):=d 1 (by omega);have au:a.cell? ⟨c,n*10+2,none⟩=some (.int .i64 r.k1):=d 2 (by omega);have av:a.cell? ⟨c,n*10+3,none⟩=some (.int .i64 r.a1):=d 3 (by omega);have ax:a.cell? ⟨c,n*10+4,none⟩=some (.string r.s1):=d 4 (by omega);have ay:a.cell? ⟨c,n*10+5,none⟩=some (.int .i64 r.k2):=d 5 (by omega);have aA:a.cell? ⟨c,n*10+6,none⟩=some (.int .i64 r.a2):=d 6 (by omega);have aI:a.cell? ⟨c,n*10+7,none⟩=some (.string r.s2):=d 7 (by omega);have aJ:a.cell? ⟨c,n*10+8,none⟩=some (.int .i64 r.A):=d 8 (by omega);have aL:a.cell? ⟨c,n*10+9,none⟩=some (.int .i64 r.B):=d 9 (by omega);have aN:=e.c21;have aR:=e.lt;have aT:l<a.heap.size+1:=by omega
 have aU:l<a.heap.size+1+1:=by omega
 have aV:c<a.heap.size+1:=by omega
 have a0:c<a.heap.size+1+1:=by omega
 have u1:(0:Int)<=(n:Int):=by omega
 have u2:(n:Int)<(o.length:Int):=by omega
 have bv:decide (r.B<0)=false:=by simp;omega
 have a1:Hid (Below a.heap.size a (((a.alloc (.cells #[.pointer (some ⟨l,0,none⟩),.slice R T.length S] 222)).alloc (.cells #[.slice V W X,.slice Y Z ac,.slice ad ae aj,.slice ak al an,.bool true] 105)).alloc (.cells #[.string b,.int .i64 r.nu,.int .i64 r.k1,.int .i64 r.a1,.string r.s1,.int .i64 r.k2,.int .i64 r.a2,.string r.s2,.int .i64 r.A,.int .i64 r.B] 374))):=(((Jj _ _).alloc (Ji _) _).alloc (by simp) _).alloc (by simp;omega) _
 have a2:(b=⟨#[42]⟩/\iK b g i=wrap64 (g*i))∨(b=⟨#[43]⟩/\iK b g i=wrap64 (g+i))∨(b=⟨#[45]⟩/\iK b g i=wrap64 (g-i)):=by
  rcases F with hz|hz
  ·left;subst hz;exact⟨rfl,by unfold iK;rw[JA];rfl⟩
  ·unfold kj at hz;simp only[JG,JO,Kg]at hz;rcases hz with hz|hz
   ·right;left;subst hz;exact⟨rfl,by unfold iK;rw[JA];rfl⟩
   ·right;right;subst hz;exact⟨rfl,by unfold iK;rw[JA];rfl⟩
 clear e d G H E F;rcases a2 with⟨rfl,ho⟩|⟨rfl,ho⟩|⟨rfl,ho⟩
 all_goals
  have a3:=ab ho;clear ho;go_enter func132,ntmps132;go_wp2_with fail;have m:=U a1;refine(P _ _ (K.keep m) (L.keep m) (M.keep m)).mono ?_;rintro a4 a5 ⟨rfl,p⟩;have q:Hid (Below a.heap.size a a5):=m.trans (p.mono m.size);have B:=(p.block a.heap.size (by first|(simp;done)|(simp;omega))).trans (ai (ai (af rfl)));have C:=(p.block (a.heap.size+1) (by first|(simp;done)|(simp;omega))).trans (ai (af (by simp)));have j:=(p.block (a.heap.size+1+1) (by first|(simp;done)|(simp;omega))).trans (af (by simp));obtain⟨a9,a'⟩:=blk B;obtain⟨ba,bb⟩:=blk C;obtain⟨N,O⟩:=blk j;have bx:=aa B;have bz:=aa C;have bc:=aa j;have be:=ab j;clear m p B C j;clear ap ar au av ax ay aA aI aJ aL aN aR aT aU ao aV a0;go_wp2_with fail;refine(Q _ _ (K.keep q) (L.keep q) (M.keep q)).mono ?_;rintro a4 bg ⟨rfl,D⟩;have j:=(D.block (a.heap.size+1+1) bc).trans be;have bk:Hid (Below a.heap.size a bg):=q.trans (D.mono q.size);clear N O a9 a' ba bb;obtain⟨N,O⟩:=blk j;have bA:=aa j;clear D j;go_wp2;go_ret;exact⟨by rw[U a3];rfl,bk⟩
structure DJ(T:List Tb)(ss:List Sr)(rows:List (List Int)):Prop where
 len:rows.length=ss.length
 at': ∀(i:Nat) (s:Sr),ss[i]? =some s-> ∃r,rows[i]? =some r/\r.length=(bh T s).length/\ ∀j,j<r.length->rows.flatten.getD (s.first+j) 0=r.getD j 0
theorem tS(c:ByteArray): ∀(l:List ByteArray) (i:Nat),Lib.idxFromS l c i= -1∨((i:Int)<=Lib.idxFromS l c i/\Lib.idxFromS l c i<(i+l.length:Nat))
 | [],i=>Or.inl rfl
 |a::r,i=>by
  rw[Lib.idxFromS];by_cases b:a=c
  ·rw[Jo b];right;rw[Ju];omega
  ·rw[Jn b];rcases tS c r (i+1)with h'|h'
   ·exact Or.inl h'
   ·right;rw[Ju];omega
theorem GV{l:List ByteArray}{c:ByteArray}(a: ¬Lib.idxOfS l c<0): ∃j:Nat,Lib.idxOfS l c=(j:Int)/\j<l.length:=by
 unfold Lib.idxOfS at a⊢;rcases tS c l 0 with h'|h'
 ·rw[h']at a;omega
 ·exact⟨(Lib.idxFromS l c 0).toNat,by omega,by omega⟩
theorem Fy(lo j:Nat)(df:Value)(T:List Tb)(dk:T.length<=5)(ao:List RE)(dp:List RI)(C l:List RT)(rs:List RP)(dq ds dw dT d':Value)(e:List Sr)(Q:vP T e C l)(ea:e.length<=3)(n:Nat)(r:RE)(hn:ao[n]? =some r)(t u:Tk)(ba:r.sg=⟨#[46]⟩)(bb:r.s1=t.text)(bc:r.a1=t.place)(be:r.s2=u.text)(bg:r.a2=u.place)(rows:List (List Int))(bk:DJ T e rows)(bl:cw T e [dl t u]=none):tR lo j df T ao dp C l rs dq ds dw dT d' rows (n:Int) (rows.flatten.getD (a6 T e t.text u.text).toNat 0):=by
 intro b bn m bq ap;obtain⟨br,eb,bs⟩:=aC ap bk bl;obtain⟨bt,⟨g4,g6,rfl,-,-⟩,bu,-⟩:=id ap;obtain⟨g7,bv,bx,ed⟩:=aP bu m bq Q;have ef:=ab Q.lt;have R:=ab Q.ln;obtain⟨ar,J,rfl,-⟩:=bq;obtain⟨bz,bA,bF,rfl⟩:=bO m.it;obtain⟨bG,bJ,bL,rfl⟩:=bO m.ts;obtain⟨bN,S,rfl⟩:=a8 m.tb;obtain⟨bS,bX,rfl⟩:=a8 m.nm;obtain⟨h,g8,rfl,eg,g9,i⟩:=cK (f:=tJ) (k:=10) (fun _=>rfl) m.ex hn;have ei:b.cell? ⟨h,n*10,none⟩=some (.string ⟨#[46]⟩):=by rw[<-ba];exact i 0 (by omega)
 have en:b.cell? ⟨h,n*10+1,none⟩=some (.int .i64 r.nu):=i 1 (by omega);have eo:b.cell? ⟨h,n*10+2,none⟩=some (.int .i64 r.k1):=i 2 (by omega);have ep:b.cell? ⟨h,n*10+3,none⟩=some (.int .i64 (t.place:Int)):=by rw[<-bc];exact i 3 (by omega)
 have eq:b.cell? ⟨h,n*10+4,none⟩=some (.string t.text):=by rw[<-bb];exact i 4 (by omega)
 have er:b.cell? ⟨h,n*10+5,none⟩=some (.int .i64 r.k2):=i 5 (by omega);have es:b.cell? ⟨h,n*10+6,none⟩=some (.int .i64 (u.place:Int)):=by rw[<-bg];exact i 6 (by omega)
 have et:b.cell? ⟨h,n*10+7,none⟩=some (.string u.text):=by rw[<-be];exact i 7 (by omega)
 have ev:b.cell? ⟨h,n*10+8,none⟩=some (.int .i64 r.A):=i 8 (by omega);have ex:b.cell? ⟨h,n*10+9,none⟩=some (.int .i64 r.B):=i 9 (by omega);have ez:=m.c21;have eN:=m.lt;have eR:j<b.heap.size+1:=by omega
 have eT:j<b.heap.size+1+1:=by omega
 have eX:j<b.heap.size+1+1+1:=by omega
 have e0:h<b.heap.size+1:=by omega
 have au:h<b.heap.size+1+1:=by omega
 have b0:h<b.heap.size+1+1+1:=by omega
 have u1:(0:Int)<=(n:Int):=by omega
 have u2:(n:Int)<(ao.length:Int):=by omega
 clear m i Q bb bc be bg ba ap bk bl bu
 obtain⟨w,D⟩: ∃w,w=(((b.alloc (.cells #[.pointer (some ⟨j,0,none⟩),.slice ar T.length J] 222)).alloc (.cells #[.slice bz bA bF,.slice bN C.length S,.slice bS l.length bX,.slice bG bJ bL,.bool true] 105)).alloc (.cells #[.string ⟨#[46]⟩,.int .i64 r.nu,.int .i64 r.k1,.int .i64 (t.place:Int),.string t.text,.int .i64 r.k2,.int .i64 (u.place:Int),.string u.text,.int .i64 r.A,.int .i64 r.B] 374)):=⟨_,rfl⟩
 have V:Below b.heap.size b w:=by rw[D];exact(((Jj _ _).alloc (Ji _) _).alloc (by simp) _).alloc (by simp;omega) _
 have b1:w.heap[b.heap.size]? =some (.cells #[.pointer (some ⟨j,0,none⟩),.slice ar T.length J] 222 (0,0)):=by rw[D];exact ai (ai (af rfl))
 have b2:w.heap[b.heap.size+1]? =some (.cells #[.slice bz bA bF,.slice bN C.length S,.slice bS l.length bX,.slice bG bJ bL,.bool true] 105 (0,0)):=by rw[D];exact ai (af (by simp))
 have b3:w.heap[b.heap.size+1+1]? =some (.cells #[.string ⟨#[46]⟩,.int .i64 r.nu,.int .i64 r.k1,.int .i64 (t.place:Int),.string t.text,.int .i64 r.k2,.int .i64 (u.place:Int),.string u.text,.int .i64 r.A,.int .i64 r.B] 374 (0,0)):=by rw[D];exact af (by simp)
 go_enter func132,ntmps132;go_wp2_with fail;rw[<-D];clear D;obtain⟨av,e1,e2,b4,b5,b6⟩:=io V (bv.keep V) (bx.keep V) b1 b2 b3;have g':l.length<=3:=by rw[U R];exact ea
 have e3:=ab (br.keep av);clear V b1 b2 b3 ei en eo ep eq er es et ev ex ez eN eR eT eX eg e0 au b0 u1 u2 bv bx br
 go_loopg [10] l.length (fun f e4 d=> ∃k:Nat,k+f=l.length/\e4=.int .i64 (k:Nat)/\(∀c∈e.take k,(c.alias.toList==t.text.toList)=false)/\Below w.heap.size w d)
 case atStart=>exact⟨0,by omega,rfl,(fun c e5=>by simp at e5),Jj _ _⟩
 case round=>
  obtain⟨k,ha,rfl,b7,o⟩:=hrel;have W:=(o.block _ (aa b4)).trans b4;have X:=(o.block _ (aa b5)).trans b5;have x:=(o.block _ (aa b6)).trans b6;obtain⟨ax,e6⟩:=blk W;obtain⟨b9,e7⟩:=blk X;obtain⟨Y,ay⟩:=blk x;have b':=aa W;have e8:=aa X;have e9:=aa x;obtain⟨hb,hc,e',ca,cb⟩:=dD W X x (e1.keep o) (e2.keep o);have cc:Hid (Below b.heap.size b wr):=av.trans (o.mono av.size);obtain⟨fa,aA,fb⟩:=aC o b7 (e3.keep o);clear b7 o W X x;by_cases fc:k<l.length
  ·have hd:decide (k<l.length)=true:=by simp;omega
   obtain⟨aI,rfl⟩: ∃aI,gk=aI+1:=⟨gk-1,by omega⟩
   obtain⟨c,Z⟩: ∃c,e[k]? =some c:=⟨_,Jl (by rw[<-U R];exact fc)⟩
   obtain⟨K,he,cd,ce,cf,cg⟩:=ed.at' k c Z;obtain⟨fe,hf,aJ,b0,-,ch⟩:=cK (f:=pI) (k:=3) (fun _=>rfl) ca.nm ce;injection aJ with aJ fg fk;clear fg;subst aJ fk;have fl:wr.cell? ⟨fe,k*3+2,none⟩=some (.string c.alias):=by rw[cf];exact ch 2 (by omega)
   have hg:(0:Int)<=(k:Int):=by omega
   have hh:(k:Int)<(l.length:Int):=by omega
   have fn:Hid (e.take (k+1)=e.take k++[c]):=by unfold Hid;rw[K',Z];rfl
   obtain⟨ci,fo,cj⟩:=aC Z cd cg;clear ch cd ce Z cf cg
   cases cl:(c.alias.toList==t.text.toList)with
   |true=>
    go_wp2_with fail
    go_region
    obtain⟨L,hi,s,au,-,cp⟩:=cK (f:=pI) (k:=3) (fun _=>rfl) ca.tb fo;injection s with s fp fq;clear fp;subst s fq;have cq:wr.cell? ⟨L,k*3+2,none⟩=some (.string K.s):=cp 2 (by omega);have hj:(k:Int)<(C.length:Int):=by rw[U ef,<-U R];omega
    have cr:wr.cell? ⟨b.heap.size,0,none⟩=some (.pointer (some ⟨j,0,none⟩)):=ax 0;have cs:wr.cell? ⟨b.heap.size,1,none⟩=some (.slice ar T.length J):=ax 1;have ct:wr.cell? ⟨b.heap.size+1,1,none⟩=some (.slice (some ⟨L,0,none⟩) C.length S):=b9 1;obtain⟨tt,ac⟩:=nQ cj;have fr:Hid (gH T K.s=(c.tab:Int)):=by unfold Hid gH;rw[U cj]
    have hk:c.tab<T.length:=(Jy.1 ac).1;have fs:=ab ac;obtain⟨hl,hm,aL,-,-,cu⟩:=U cb;injection aL with aL ft fv;clear ft;subst aL fv;obtain⟨y,z,rfl,aN,E⟩:=cu (by omega);obtain⟨fw,bn,fx,d0,d1,d2⟩:=E c.tab tt ac;obtain⟨fy,fz,M,cv,-,⟨cz,⟨cF,cI,fO,-,-⟩,-,-⟩⟩:=fx;have f':fw=fy:=by simp at M;exact M.1
    have ga:bn=fz:=by simp at M;exact M.2
    subst f' ga fO;have cL:=ab cv;obtain⟨F,G,gb,-,-⟩:=cv;subst gb;rw[Jm]at d1;have ho:(0:Int)<=(c.tab:Int):=by omega
    have hp:(c.tab:Int)<(T.length:Int):=by omega
    clear cp ac ax b9 cu E M;have gc:Hid (∀d,Below wr.heap.size wr d->Calls prog 130 #[.agg #[.pointer (some ⟨j,0,none⟩),.slice (some ⟨y,z,none⟩) T.length J],.string K.s] d fun N aR=>N=.returned (.int .i64 (c.tab:Int))/\Below d.heap.size d aR):=fun d aT=>by have:=nj d (some ⟨j,0,none⟩) _ T (cb.keep aT) dk K.s;rw[U fr]at this;exact this
    go_upto_region 9 with(fail)
    go_cut [11]from 49 to 60 (fun gf d=> ∃H,gf=.pointer (some ⟨H,0,none⟩)/\wr.heap.size<=H/\Below wr.heap.size wr d/\d.heap[H]? =some (.cells #[.string tt.name,.slice F tt.cols.length G,.slice cF cz.length cI] 204 (0,0)))
    case first=>
     go_region_held3 (fun d=>d.cell? ⟨b.heap.size,0,none⟩=some (.pointer (some ⟨j,0,none⟩))/\d.cell? ⟨b.heap.size,1,none⟩=some (.slice (some ⟨y,z,none⟩) T.length J)/\d.cell? ⟨b.heap.size+1,1,none⟩=some (.slice (some ⟨L,0,none⟩) C.length S)/\d.cell? ⟨L,k*3+2,none⟩=some (.string K.s)/\d.cell? ⟨y,z+c.tab*3,none⟩=some (.string tt.name)/\d.cell? ⟨y,z+c.tab*3+1,none⟩=some (.slice F tt.cols.length G)/\d.cell? ⟨y,z+c.tab*3+2,none⟩=some (.slice cF cz.length cI)) (first|go_keep|(refine⟨?_,?_,?_,?_,?_,?_,?_⟩<;>(rw[dj _ _ _ _ (by omega),dj _ _ _ _ (by omega),dj _ _ _ _ (by omega)];assumption))) (first
      |(go_at_call 130;refine(gc _ (by repeat(first|exact Jj _ _|apply JI|refine JY ?_ (by first|exact Ji _|simp) _))).mono ?_;rintro N cN ⟨rfl,aU⟩;have v:Below wr.heap.size wr cN:=Kn (by repeat(first|exact Jj _ _|apply JI|refine JY ?_ (by first|exact Ji _|simp) _)) (aU.mono (by first|exact Ji _|simp));have hq:=(v.cell (p:=⟨b.heap.size,0,none⟩) b').trans cr;have hr:=(v.cell (p:=⟨b.heap.size,1,none⟩) b').trans cs;have hs:=(v.cell (p:=⟨b.heap.size+1,1,none⟩) e8).trans ct;have ht:=(v.cell (p:=⟨L,k*3+2,none⟩) au).trans cq;have hu:=(v.cell (p:=⟨y,z+c.tab*3,none⟩) aN).trans d0;have hv:=(v.cell (p:=⟨y,z+c.tab*3+1,none⟩) aN).trans d1;have hw:=(v.cell (p:=⟨y,z+c.tab*3+2,none⟩) aN).trans d2;have ad:=ab v;(try(have O:cN.heap[wr.heap.size]? =some (.cells #[.string ⟨#[]⟩,.slice none 0 0,.slice none 0 0] 204 (0,0)):=(aU.block wr.heap.size (by simp)).trans (af rfl);obtain⟨hx,hy⟩:=blk O;have hz:=aa O;have gg:=ab O;clear O));clear aU v))
     all_goals
      go_wp2_with fail;go_meet
      case rel=>
       first
        |exact⟨_,rfl,Ji _,((ad.setCell (Ji _) _).setCell (Ji _) _).setCell (Ji _) _,(am (am (am gg _) _) _).trans rfl⟩
        |exact⟨_,rfl,ad.size,ad.alloc ad.size _,af rfl⟩
    case rest=>
     obtain⟨H,rfl,O,I,E⟩:=hcut;generalize wc=A at*;have cR:aS A (.slice F tt.cols.length G) (aB tt.cols):=by have:=cL.keep I;rw[Jm]at this;exact this
     have x:=(I.block _ e9).trans e';have cT:=ab cR;have gi:Hid (Below b.heap.size b A):=cc.trans (I.mono cc.size);have gl:=ab (fb.keep I);have hA:=I.size;clear I cR cr cs ct cq d0 d1 d2 Y ay fl e6 e7;obtain⟨cV,gm⟩:=blk E;obtain⟨Y,ay⟩:=blk x;have hB:=aa E;have hC:=aa x;clear E x
     have aV:ck e t.text=some c:=by
      have gn:e=e.take k++c::e.drop (k+1):=by
       conv=>lhs;rw[<-KK k e]
       congr 1
       obtain⟨gq,gr⟩:=Jy.1 ci;rw[Kz gq,gr]
      rw[gn];exact(kS aA).trans (tP cl)
     have ae:bh T c=tt.cols:=by unfold bh;rw[JC,U fs];rfl
     have cW: ¬Lib.idxOfS tt.cols u.text<0:=by
      intro gs;have s:=U bs;have gt:ck e (dl t u).s1=some c:=aV;have P:eA T e (dl t u)=some (u.place,eW):=by unfold eA;rw[Jo (show(dl t u).tag=2 from rfl),gt];show(if Lib.idxOfS (bh T c) u.text<0 then _ else _)=_;rw[ae,Jo gs];rfl
      rw[dc,P]at s;cases s
     obtain⟨g,a0,cZ⟩:=GV cW;obtain⟨B,a1,c0,c1⟩:=eb.at' k c ci;have aj:g<B.length:=by rw[c0,ae];exact cZ
     have gw:Hid (rows.flatten.getD (a6 T e t.text u.text).toNat 0=B.getD g 0):=by
      have P:a6 T e t.text u.text=(c.first:Int)+(g:Int):=by unfold a6;rw[aV];show(c.first:Int)+Lib.idxOfS (bh T c) u.text=_;rw[ae,a0]
      unfold Hid;rw[P,show((c.first:Int)+(g:Int)).toNat=c.first+g by omega];exact c1 g aj
     obtain⟨a2,⟨hD,hE,ak,-,c2⟩,c3,c4⟩:=U gl;have a3:k<a2.length:=by rw[c3];exact(Jy.1 a1).1
     obtain⟨a4,a5⟩: ∃a4,a2[k]? =some a4:=⟨_,Jl a3⟩
     obtain⟨hF,c5,c6,-,a9⟩:=c4 k B a4 a1 a5;rw[Jm]at a9;obtain⟨al,an,rfl,hG,c7⟩:=a9 (by omega);obtain⟨c8,c9,rfl,hH,c'⟩:=c2 (by omega);have gx:bt.length=a2.length:=by injection ak
     injection ak with ak gy gJ;clear gy;subst ak gJ;have hI:A.cell? ⟨c8,c9+k,none⟩=some (.slice (some ⟨al,an,none⟩) B.length c5):=by rw[c' k a3,a5,c6,Jm]
     have hJ:A.cell? ⟨al,an+g,none⟩=some (.int .i64 (B.getD g 0)):=by rw[c7 g aj,J7,JC,Jl aj];rfl
     have t1:A.cell? ⟨H,1,none⟩=some (.slice F tt.cols.length G):=cV 1;have t7:A.cell? ⟨b.heap.size+1+1,7,none⟩=some (.string u.text):=Y 7;have u5:(k:Int)<(bt.length:Int):=by omega
     have u6:(0:Int)<=(g:Int):=by omega
     have u7:(g:Int)<(B.length:Int):=by omega
     have gQ:Hid (∀d,Below A.heap.size A d->Calls prog 85 #[.slice F tt.cols.length G,.string u.text] d fun N aR=>N=.returned (.int .i64 (g:Int))/\aR=d):=fun d aT=>by have dd:=lJ _ tt.cols u.text d (cT.keep aT);rw[a0]at dd;exact dd
     clear aV ae cW a0 cZ a1 c0 c1 c2 c3 c4 a3 a5 c6 c' c7 a9 gx cV gm Y ay cT cL aj;generalize B.getD g 0=gW at*
     go_upto_region 10 with(fail)
     go_region_held3 (fun d=>d.cell? ⟨c8,c9+k,none⟩=some (.slice (some ⟨al,an,none⟩) B.length c5)/\d.cell? ⟨H,1,none⟩=some (.slice F tt.cols.length G)/\d.cell? ⟨b.heap.size+1+1,7,none⟩=some (.string u.text)/\d.cell? ⟨al,an+g,none⟩=some (.int .i64 gW)) (go_keep) (first
      |(go_at_call 85;refine(gQ _ (by exact(Jj _ _).drew)).mono ?_;rintro N hK ⟨rfl,g0⟩;obtain rfl:=g0.symm))
     go_wp2;go_ret;exact⟨by rw[U gw];rfl,gi.drew⟩
   |false=>
    have g1:Hid (∀a'∈e.take (k+1),(a'.alias.toList==t.text.toList)=false):=by
     unfold Hid;rw[U fn];intro a' g2;rcases JW.1 g2 with q|q
     ·exact aA a' q
     ·rw[JN]at q;rw[q];exact cl
    go_wp2_with fail
    go_region
    go_wp2;go_roundg aI
    case measure=>simp
    case rel=>exact⟨k+1,by omega,by go_num,g1,fa.drew⟩
  ·exfalso
   have hn:=kS (suf:=[]) (pre:=e) (a:=t.text) (by
    have:=U aA;rw[JJ (by rw[<-U R];omega)]at this
    exact this)
   rw[JD]at hn;have g3:ck e (dl t u).s1=none:=hn;have P:eA T e (dl t u)=some (t.place,dY):=by unfold eA;rw[Jo (show(dl t u).tag=2 from rfl),g3];rfl
   have s:=U bs;rw[dc,P]at s;cases s
theorem fF.wfv{f:List RE}{n:Int}{k:List Nd}(g:fF f n k)(c:ByteArray->ByteArray->Int):pD c k:=by
 induction g with
 |num n b d _ _ _ _ _=>exact(sX c d).1
 |col n b d h _ _ _ _ _ _=>exact(sY c d h).1
 |minus n b a k _ _ _ _ e=>exact(o8 e a).1
 |br n a k _ e=>exact(wK e a).1
 |pair n b a k l _ _ _ _ i j=>exact(qI i j a b.sg).1
theorem sj(lo o:Nat)(p:Value)(T:List Tb)(C:T.length<=5)(j:List RE)(q:List RI)(l m:List RT)(rs:List RP)(r s t u v:Value)(e:List Sr)(D:vP T e l m)(E:e.length<=3)(rows:List (List Int))(F:DJ T e rows){n:Int}{k:List Nd}(c:fF j n k)(f:cw T e k=none):tR lo o p T j q l m rs r s t u v rows n (dm (a6 T e) k rows.flatten):=by
 induction c with
 |num n d w c g h i z=>
  rw[(sX _ w).2]
  show tR _ _ _ _ _ _ _ _ _ _ _ _ _ _ _ _ w.value
  rw[<-h];exact Fw lo o p T j q l m rs r s t u v rows n d c g
 |col n d w A c g h i z G=>rw[(sY _ w A).2];exact Fy lo o p T C j q l m rs r s t u v e D E n d c w A g h i z G rows F f
 |minus n d x k c g h i y=>rw[dc]at f;rw[(o8 (i.wfv _) x).2];exact BT lo o p T j q l m rs r s t u v rows n d c g h _ (y f)
 |br n x k c y=>rw[dc]at f;rw[(wK (c.wfv _) x).2];exact y f
 |pair n d x k H c g h i I J=>rw[dc,mX]at f;have B:=dZ (a:=cw T e k) (b:=cw T e H) f;rw[(qI (h.wfv _) (i.wfv _) x d.sg).2];exact DI lo o p T j q l m rs r s t u v rows n d c d.sg rfl g i.nonneg _ _ (I B.1) (J B.2)
theorem BU(f:ByteArray)(a b:Int)(w:World):Calls prog 206 #[.string f,.int .i64 a,.int .i64 b] w fun e w'=>e=.returned (.bool (eY f a b))/\w'=w:=by
 obtain⟨k,c⟩: ∃k,k=eY f a b:=⟨_,rfl⟩
 rw[<-c];unfold eY at c
 cases g:(f.toList== [61])with
 |true=>rw[g]at c;have d:=ab c;clear c;go_enter func206,ntmps206;go_wp2;go_ret;exact⟨by rw[U d];rfl,rfl⟩
 |false=>
  cases hz:(f.toList== [60,62])with
  |true=>rw[g,hz]at c;have d:=ab c;clear c;go_enter func206,ntmps206;go_wp2;go_ret;exact⟨by rw[U d];rfl,rfl⟩
  |false=>
   cases i:(f.toList== [60])with
   |true=>rw[g,hz,i]at c;have d:=ab c;clear c;go_enter func206,ntmps206;go_wp2;go_ret;exact⟨by rw[U d];rfl,rfl⟩
   |false=>
    cases j:(f.toList== [60,61])with
    |true=>rw[g,hz,i,j]at c;have d:=ab c;clear c;go_enter func206,ntmps206;go_wp2;go_ret;exact⟨by rw[U d];rfl,rfl⟩
    |false=>
     cases l:(f.toList== [62])with
     |true=>rw[g,hz,i,j,l]at c;have d:=ab c;clear c;go_enter func206,ntmps206;go_wp2;go_ret;exact⟨by rw[U d];rfl,rfl⟩
     |false=>rw[g,hz,i,j,l]at c;have d:=ab c;clear c;go_enter func206,ntmps206;go_wp2;go_ret;exact⟨by rw[U d];rfl,rfl⟩
def gY:List Int->List Int->Int
 | [],[]=>0
 | [],_::r=> -((r.length:Int)+1)
 |_::r,[]=>(r.length:Int)+1
 |a::r,b::s=>if a<b then-1 else if b<a then 1 else gY r s
theorem DK{pre r s:List Int}:gY (pre++r) (pre++s)=gY r s:=by
 induction pre with
 |nil=>rfl
 |cons a b c=>
  show(if a<a then _ else if a<a then _ else gY (b++r) (b++s))=_
  rw[Jn (by omega),Jn (by omega),c]
theorem yN(u v:Value)(a b:List Int)(w:World)(G:aS w u (aE a))(H:aS w v (aE b))(Y:a.length<=1000)(Z:b.length<=1000):Calls prog 134 #[u,v] w fun e w'=>e=.returned (.int .i64 (gY a b))/\Below w.heap.size w w':=by
 obtain⟨ac,ad,rfl,-,r⟩:=G;obtain⟨ae,aj,rfl,-,s⟩:=H;simp only[Jm]at r s⊢;obtain⟨I,J⟩:=ag r s;clear r s;go_enter func134,ntmps134;go_wp2_with fail
 go_loopg [5] a.length (fun K L M=> ∃c g hz,a=c++g/\b=c++hz/\K=g.length/\L=.int .i64 (c.length:Nat)/\Below w.heap.size w M)
 case atStart=>exact⟨[],a,b,rfl,rfl,rfl,rfl,Jj _ _⟩
 case round=>
  obtain⟨c,g,hz,m,n,rfl,rfl,x⟩:=hrel;have l:c.length+g.length=a.length:=by rw[m,Jk]
  have i:c.length+hz.length=b.length:=by rw[n,Jk]
  obtain⟨y,z⟩:=ag m n;have o:Hid (gY a b=gY g hz):=by unfold Hid;rw[m,n];exact DK
  have j:=ab x;clear m n x
  cases g with
  |nil=>
   have N:decide (c.length<a.length)=false:=by simp at l⊢;omega
   have O:IntKind.i64.wrap ((a.length:Int)-(b.length:Int))=(a.length:Int)-(b.length:Int):=by unfold IntKind.wrap;simp[IntKind.bits,IntKind.signed];omega
   have k:Hid (gY a b=(a.length:Int)-(b.length:Int)):=by
    unfold Hid;rw[U o];simp at l
    cases hz with
    |nil=>simp at i;show(0:Int)=_;omega
    |cons f P=>rw[Ju]at i;show-((P.length:Int)+1)=_;omega
   clear l i;go_wp2;go_ret;exact⟨by rw[U k];rfl,j⟩
  |cons d g=>
   rw[Ju]at l;have N:decide (c.length<a.length)=true:=by simp;omega
   cases hz with
   |nil=>
    have Q:decide (c.length<b.length)=false:=by simp at i⊢;omega
    have O:IntKind.i64.wrap ((a.length:Int)-(b.length:Int))=(a.length:Int)-(b.length:Int):=by unfold IntKind.wrap;simp[IntKind.bits,IntKind.signed];omega
    have k:Hid (gY a b=(a.length:Int)-(b.length:Int)):=by
     unfold Hid;rw[U o];simp at i
     show(g.length:Int)+1=_
     omega
    clear l i;go_wp2;go_ret;exact⟨by rw[U k];rfl,j⟩
   |cons f hz=>
    rw[Ju]at i;have Q:decide (c.length<b.length)=true:=by simp;omega
    obtain⟨A,B,rfl,R,C⟩:=(U I) (by omega)
    obtain⟨D,E,rfl,S,F⟩:=(U J) (by omega)
    have ak:wr.cell? ⟨A,B+c.length,none⟩=some (.int .i64 d):=by rw[j.cell (p:=⟨A,B+c.length,none⟩) R,C _ (by omega),J7,U y];simp
    have al:wr.cell? ⟨D,E+c.length,none⟩=some (.int .i64 f):=by rw[j.cell (p:=⟨D,E+c.length,none⟩) S,F _ (by omega),J7,U z];simp
    have an:(0:Int)<=(c.length:Int):=by omega
    have ao:(c.length:Int)<(a.length:Int):=by omega
    have ap:(c.length:Int)<(b.length:Int):=by omega
    have T:Hid (a=(c++[d])++g):=by unfold Hid;rw[U y];simp
    clear C F;by_cases q:d<f
    ·have V:decide (d<f)=true:=by simp[q]
     have k:Hid (gY a b= -1):=by unfold Hid;rw[U o];show(if d<f then(-1:Int)else _)=_;rw[Jo q]
     go_wp2_with fail
     go_region
     go_wp2;go_ret;exact⟨by rw[U k];rfl,j.drew⟩
    ·have V:decide (d<f)=false:=by simp[q]
     by_cases t:f<d
     ·have W:decide (f<d)=true:=by simp[t]
      have k:Hid (gY a b=1):=by unfold Hid;rw[U o];show(if d<f then(-1:Int)else if f<d then 1 else _)=_;rw[Jn q,Jo t]
      go_wp2_with fail
      go_region
      go_wp2_with fail
      go_region
      go_wp2;go_ret;exact⟨by rw[U k];rfl,j.drew.drew⟩
     ·have W:decide (f<d)=false:=by simp[t]
      have hex:f=d:=by omega
      have X:Hid (b=(c++[d])++hz):=by unfold Hid;rw[U z,hex];simp
      clear hex;go_wp2_with fail
      go_region
      go_wp2_with fail
      go_region
      go_wp2;go_roundg g.length
      case measure=>simp
      case rel=>exact⟨c++[d],g,hz,T,X,rfl,by rw[Jk];go_num,j.drew.drew⟩
theorem eL{W:World}{lo:Nat}{T:TypeId}{v:Value}{n:Nat}{xs:List Value}(b:W.ownsRow lo T 1 v n xs):aS W v xs:=by
 have a:=b.1;rw[Lb]at a;rcases b.2 with⟨h1,h2⟩|⟨g,cap,cur,h1,_,hb,h2,h3,h4,h5⟩
 ·subst h2;exact⟨none,0,by rw[a];exact h1,by rw[a];unfold maxLen;omega,fun c=>by omega⟩
 ·refine⟨_,cap,by rw[a];exact h1,by omega,fun _=>⟨g,0,rfl,aa hb,fun d e=>?_⟩⟩;rw[JV,(blk hb).1,<-h5,Kh (by omega)];simp
theorem yO(l:List (List Int)):(iY l).Pairwise fun x a=>bV x a<=0:=by
 have b:=List.pairwise_mergeSort (le:=fun x a:List Int=>decide (bV x a<=0)) (fun c d g e f=>by
   simp only[JQ]at e f⊢
   exact my c d g e f) (fun c d=>by
   have:=fM c d;simp only[J8,JQ]
   omega) l
 exact b.imp fun b=>by simpa using b
theorem yP: ∀(a b:List Int),0<gY a b↔0<bV a b
 | [],[]=>by simp[gY,bV]
 | [],_::r=>by simp only[gY,bV];omega
 |_::r,[]=>by simp only[gY,bV];omega
 |a::r,b::s=>by
  show 0<(if a<b then(-1:Int)else if b<a then 1 else gY r s)↔0<(if ej a b=0 then bV r s else ej a b)
  unfold ej;by_cases c:a<b
  ·rw[Jo c,Jo c];simp
  ·rw[Jn c,Jn c];by_cases d:b<a
   ·rw[Jo d,Jo d];simp
   ·rw[Jn d,Jn d];simp only[Mi];exact yP r s
def fG(row:List Int):List (List Int)->Nat->Nat
 |_,0=>0
 |l,n+1=>if 0<bV (l.getD n []) row then fG row l n else n+1
theorem DL(row:List Int)(l:List (List Int)): ∀n,fG row l n<=n
 |0=>Ji _
 |n+1=>by
  unfold fG;split
  ·exact Nat.le_succ_of_le (DL row l n)
  ·exact Ji _
theorem vQ(row:List Int)(l:List (List Int)): ∀n j,fG row l n<=j->j<n->0<bV (l.getD j []) row
 |0,j,_,h=>by omega
 |n+1,j,a,d=>by
  unfold fG at a;split at a
  ·rename_i b
   by_cases c:j=n
   ·rw[c];exact b
   ·exact vQ row l n j a (by omega)
  ·omega
theorem vS(row:List Int)(l:List (List Int)): ∀n,0<fG row l n-> ¬0<bV (l.getD (fG row l n-1) []) row
 |0,a=>by unfold fG at a;omega
 |n+1,a=>by
  unfold fG at a⊢;split at a
  ·rename_i b
   rw[Jo b];exact vS row l n a
  ·rename_i b
   rw[Jn b];exact b
def eu(l:List (List Int))(row:List Int):List (List Int):=l.take (fG row l l.length)++row::l.drop (fG row l l.length)
theorem BV(l:List (List Int))(row:List Int):(eu l row).Perm (l++[row]):=by unfold eu;have a:(l.take (fG row l l.length)++row::l.drop (fG row l l.length)).Perm (row::(l.take (fG row l l.length)++l.drop (fG row l l.length))):=List.perm_middle;rw[KK]at a;exact a.trans (List.perm_append_singleton row l).symm
theorem yQ{l:List (List Int)}(f:l.Pairwise fun x a=>bV x a<=0)(row:List Int):(eu l row).Pairwise fun x a=>bV x a<=0:=by
 unfold eu;have g:=f;rw[<-KK (fG row l l.length) l,LD]at g;obtain⟨j,k,m⟩:=g;have v:=DL row l l.length;have n: ∀a∈l.drop (fG row l l.length),bV row a<=0:=fun a e=>by obtain⟨c,b⟩:=Lh e;rw[Ln]at b;have o:=(Jy.1 b).1;have:=vQ row l l.length (fG row l l.length+c) (by omega) o;rw[JC,b]at this;have p:0<bV a row:=this;rw[fM]at p;omega
 have q: ∀x∈l.take (fG row l l.length),bV x row<=0:=fun x d=>by
  have r:0<fG row l l.length:=by
   rcases Nat.eq_zero_or_pos (fG row l l.length)with h0|h0
   ·rw[h0]at d;simp at d
   ·exact h0
  have s:=vS row l l.length r;obtain⟨c,b⟩:=Lh d;have t:=(Jy.1 b).1;rw[JU]at t;rw[Kh (by omega)]at b;have u:(l.getD (fG row l l.length-1) [])=l[fG row l l.length-1]'(by omega):=by rw[JC,Jl (by omega)];rfl
  rw[u]at s;have h:x=l[c]'(by omega):=by rw[Jl (by omega)]at b;exact(K8 b).symm
  by_cases w:c=fG row l l.length-1
  ·subst h;have:l[c]'(by omega)=l[fG row l l.length-1]'(by omega):=by congr
   rw[this];omega
  ·have i:=(Lg.1 f) c (fG row l l.length-1) (by omega) (by omega) (by omega);rw[<-h]at i;exact my _ _ _ i (by omega)
 rw[LD,Ka];refine⟨j,⟨n,k⟩,fun x d a e=>?_⟩;rcases JG.1 e with rfl|e
 ·exact q x d
 ·exact m x d a e
theorem tU(l:List (List Int)):l.foldl eu []=iY l:=by
 refine yM (P:=fun l=>l.foldl eu []=iY l) ?_ ?_ l
 ·exact sc (List.Perm.refl _) List.Pairwise.nil
 ·intro l a b;rw[LO,b];refine sc ?_ (yQ (yO l) a);refine(BV (iY l) a).trans (List.Perm.append_right _ (LJ _ _))
theorem bZ.len{W:World}{v:Value}{l:List (List Int)}(b:bZ W v l): ∃a cap,v=.slice a l.length cap:=by obtain⟨e,⟨a,cap,c,-,-⟩,d,-⟩:=b;exact⟨a,cap,by rw[c,d]⟩
theorem bZ.elem{W:World}{a:Option Addr}{cap:Nat}{l:List (List Int)}(d:bZ W (.slice a l.length cap) l){n:Nat}{r:List Int}(hn:l[n]? =some r): ∃b o u,a=some ⟨b,o,none⟩/\b<W.heap.size/\W.cell? ⟨b,o+n,none⟩=some u/\aS W u (aE r):=by
 obtain⟨e,⟨p,q,f,-,g⟩,s,h⟩:=d;injection f with i t j;subst i j;have v:=(Jy.1 hn).1;obtain⟨b,o,rfl,k,m⟩:=g (by omega)
 obtain⟨u,c⟩: ∃u,e[n]? =some u:=⟨_,Jl (by omega)⟩
 exact⟨b,o,u,rfl,k,by rw[m n (by omega),c],h n r u hn c⟩
theorem DM(w:World)(S aA:Value)(l:List (List Int))(row:List Int)(T:bZ w S l)(q:aS w aA (aE row))(ci:l.length<=4000)(aI:l.length<=lX S)(aJ: ∀r∈l,r.length<=1000)(bA:row.length<=1000):
  Calls prog 89 #[S,aA,.bool false] w fun e w'=> ∃v',e=.returned v'/\bZ w' v' (eu l row)/\(eu l row).length<=lX v'/\Below w.heap.size w w':=by
 obtain⟨V,m,rfl⟩:=T.len;have aL:=ab T;have cj:l.length<=m:=aI;clear aI;obtain⟨W,A,aN⟩:=Jq.1 jS;simp only[JB]at aN;obtain⟨aR,aT,aU⟩:=aN;obtain⟨X,Y,Z,ac⟩:=aP A aR aT aU;clear A aR aT aU;obtain⟨ad,bF⟩:=ag q aJ;obtain⟨s,t,rfl,-,-⟩:=id q;rw[Jm]at ad;simp only[Jm];clear T q aJ;go_enter func89,ntmps89;go_wp2_with fail
 go_loopg [7] l.length (fun bG J c=> ∃B:Nat,bG=B/\B<=l.length/\J=.int .i64 (B:Nat)/\fG row l l.length=fG row l B/\Below w.heap.size w c)
 case atStart=>exact⟨l.length,rfl,Ji _,rfl,rfl,Jj _ _⟩
 case round=>
  obtain⟨B,rfl,cl,rfl,aV,a0⟩:=hrel;obtain⟨K,ae⟩:=ag a0 aV;clear a0 aV
  obtain⟨C,a1⟩: ∃C:Bool,C=decide (0<gk/\0<bV (l.getD (gk-1) []) row):=⟨_,rfl⟩
  have D:=ab a1;clear a1
  go_upto_region 2 with(fail)
  go_cut [22]from 11 to 21 (fun bJ c=>bJ=.bool C/\Below wr.heap.size wr c)
  case first=>
   cases gk with
   |zero=>
    have n:decide ((0:Int)<((0:Nat):Int))=false:=by simp
    go_wp2_with fail;go_meet
    case rel=>exact⟨by rw[U D];simp,Jj _ _⟩
   |succ b=>
    have n:decide ((0:Int)<((b+1:Nat):Int))=true:=by simp
    obtain⟨r,q⟩: ∃r,l[b]? =some r:=⟨_,Jl (by omega)⟩
    obtain⟨g,i,d,rfl,E,bL,a⟩:=(aL.keep K).elem q;have cp:IntKind.i64.wrap (((b+1:Nat):Int)-1)=(b:Int):=by unfold IntKind.wrap;simp[IntKind.bits,IntKind.signed];omega
    have cq:(0:Int)<=(b:Int):=by omega
    have cr:(b:Int)<(l.length:Int):=by omega
    have bN:r.length<=1000:=(U bF) r (JL q);have a2:Hid (∀c,Below wr.heap.size wr c->Calls prog 134 #[d,.slice s row.length t] c fun e w'=>e=.returned (.int .i64 (gY r row))/\Below c.heap.size c w'):=fun c u=>yN _ _ r row c (a.keep u) ((ad.keep K).keep u) bN bA;have bS:Hid (C=decide (0<gY r row)):=by unfold Hid;rw[U D,show b+1-1=b from rfl,JC,q];simp[yP]
    obtain⟨cs,ct,rfl,-,-⟩:=a;rw[Jm]at bL a2;clear q;generalize gY r row=bX at*;go_wp2_with fail;refine(a2 wr (Jj _ _)).mono ?_;rintro e cu ⟨rfl,a3⟩;have b0:=ab a3;clear a3;cases a4:decide (0<bX)
    all_goals
     go_wp2_with fail;go_meet
     case rel=>exact⟨by rw[U bS,a4],b0⟩
  case rest=>
   obtain⟨rfl,a5⟩:=hcut;have F:Hid (Below w.heap.size w wc):=K.trans (a5.mono K.size);clear a5
   cases C with
   |true=>
    have a9:=U D;have L:0<gk/\0<bV (l.getD (gk-1) []) row:=Lt a9.symm
    obtain⟨b,rfl⟩: ∃b,gk=b+1:=⟨gk-1,by omega⟩
    have M:Hid (fG row l l.length=fG row l b):=by
     unfold Hid;rw[U ae]
     show(if 0<bV (l.getD b []) row then fG row l b else b+1)=_
     rw[Jo (show 0<bV (l.getD b []) row from L.2)]
    clear a9 L;go_wp2;go_roundg b
    case measure=>simp
    case rel=>exact⟨b,rfl,by omega,by go_num,M,F⟩
   |false=>
    have M:Hid (fG row l l.length=gk):=by
     have L: ¬(0<gk/\0<bV (l.getD (gk-1) []) row):=of_decide_eq_false D.symm;unfold Hid;rw[U ae]
     cases gk with
     |zero=>rfl
     |succ b=>
      show(if 0<bV (l.getD b []) row then fG row l b else b+1)=_
      rw[Jn (show¬0<bV (l.getD b []) row from fun a'=>L ⟨by omega,a'⟩)]
    clear D ae;obtain⟨f,⟨cv,cz,b1,-,ba⟩,bb,bc⟩:=U aL;injection b1 with b2 b3 b4;subst b2 b4;clear b3;obtain⟨b5,y,aj⟩:=aC ba bb bc;clear ba bb bc;have u1:(0:Int)<=(gk:Int):=by omega
    have u2:(gk:Int)<=(m:Int):=by omega
    have u3:(gk:Int)<=(l.length:Int):=by omega
    have u4:(l.length:Int)<=(m:Int):=by omega
    have ak:Hid (0<l.length-> ∃g i,V=some ⟨g,i,none⟩/\g<w.heap.size/\ ∀c,Below w.heap.size w c-> ∀hz d,f[hz]? =some d->c.cell? ⟨g,i+hz,none⟩=some d):=fun be=>by
     obtain⟨g,i,e,E,n⟩:=(U b5) (by rw[U y];exact be)
     exact⟨g,i,e,E,fun c u hz d a=>by rw[u.cell (p:=⟨g,i+hz,none⟩) E,n hz (Jy.1 a).1];exact a⟩
    have bg:Hid (∀d∈f,d.oneCell'=true):=fun d a=>by obtain⟨J,A⟩:=Lh a;have bk:=(Jy.1 A).1;rw[U y]at bk;obtain⟨cF,cI,al,-,-⟩:=(U aj) J _ d (Jl bk) A;rw[al];rfl
    have b6:=F.size;generalize wc=G at*
    go_upto_region 7 with(fail)
    go_cut [8]from 41 to 45 (fun b7 c=>c.ownsRow w.heap.size 32 1 b7 gk (f.take gk)/\Below G.heap.size G c)
    case first=>
     by_cases bl:gk=0
     ·have cL:=ab bl;subst bl
      cases V with
      |none=>
       go_wp2_with fail;go_meet
       case rel=>exact⟨JF _ _ _ _,Jj _ _⟩
      |some aD=>
       go_wp2_with fail
       all_goals
        go_meet
        case rel=>exact⟨JF _ _ _ _,Jj _ _⟩
     ·obtain⟨g,i,rfl,E,n⟩:=(U ak) (by omega)
      have a4: ¬m=0:=by omega
      have an:=ab n;clear n;go_wp2_with (at_builtin;refine JT _ rfl _ _ 42 rfl w.heap.size 32 W (.slice none 0 0) 1 24 underlying42 X Y Z ac rfl (by decide) (.slice none 0 0) 0 [] (by simp[Act.eval]) (JF _ _ _ _) ⟨g,i,none⟩ gk m (f.take gk) (by simp[Act.eval]) ?c0 ?c1 ?c2 ?c3 ?c4 ?c5 ?c6 _ rfl ?_)
      case c0=>rw[JU,U y];omega
      case c1=>
       intro hz d a;have N:hz<gk:=by have:=(Jy.1 a).1;rw[JU]at this;omega
       rw[Kh N]at a;have:=(U an) G F hz d a
       rwa[show(Addr.add ⟨g,i,none⟩ hz)=⟨g,i+hz,none⟩from by unfold Addr.add;split<;>simp_all]
      case c2=>exact fun d a=>(U bg) d (Mx a)
      case c3=>omega
      case c4=>unfold maxLen;omega
      case c5=>omega
      case c6=>exact b6
      intro bn bq O k v H _;have b9:=ab k;have b':Hid (Below G.heap.size G O):=(Jj _ _).grown v (Ji _) (fun x e=>by cases e);clear k v H;go_wp2_with fail;go_meet
      case rel=>have:=U b9;exact⟨by simpa using this,b'⟩
    case rest=>
     obtain⟨ao,ap⟩:=hcut;obtain⟨cN,cR,rfl⟩:=bi ao;obtain⟨ar,ca⟩:=ag ao ap;have cT:=ap.size;clear ao ap;go_wp2_with (at_builtin;refine JT _ rfl _ _ 42 rfl w.heap.size 32 W (.slice none 0 0) 1 24 underlying42 X Y Z ac rfl (by decide) _ _ _ rfl (ar.alloc _) ⟨wc.heap.size,0,none⟩ 1 1 [.slice s row.length t] ?c0 rfl ?c1 ?c2 (by decide) ?c3 ?c4 ?c5 _ rfl ?_)
     case c0=>simp[Act.eval]
     case c1=>exact ge (af rfl)
     case c2=>exact kL _ _ _
     case c3=>unfold maxLen;omega
     case c4=>omega
     case c5=>simp;omega
     intro cb au av k v H _;have I:=ab k;have o:Hid (Below w.heap.size w av):=((F.trans (ca.mono F.size)).alloc (by omega) _).grown v (by simp;omega) (fun x e=>(ar.lt x e).1);have br:=o.size;clear k v H
     have z:Hid (∀(c:World) (P:Value),Below w.heap.size w c->c.ownsRow w.heap.size 32 1 P (l.length+1) ((f.take gk++[.slice s row.length t])++f.drop gk)->bZ c P (eu l row)/\(eu l row).length<=lX P):=fun c P u k=>by
      have bs:(eu l row).length=l.length+1:=by unfold eu;rw[Jk,Ju,JU,J6,U M];omega
      obtain⟨Q,be|⟨bt,ax,cV,rfl,cW,bu,cc,cZ,c8,cd⟩⟩:=k
      ·omega
      refine⟨⟨(f.take gk++[.slice s row.length t])++f.drop gk,⟨some ⟨bt,0,none⟩,ax,?_,?_,fun _=>⟨bt,0,rfl,aa bu,fun hz N=>?_⟩⟩,?_,fun x r d j a=>?_⟩,?_⟩
      ·rw[Q];simp
      ·rw[Q];unfold maxLen;omega
      ·rw[Q]at N;rw[(blk bu).1,<-cd,Kh N,Kt,JV]
      ·rw[Q,bs];omega
      ·unfold eu at j;rw[U M]at j;have ce:(f.take gk).length=gk:=by rw[JU,U y];omega
       have cf:(l.take gk).length=gk:=by rw[JU];omega
       rw[Kf]at a;by_cases cg:x<gk
       ·rw[Jz (by omega),Kh cg]at j a;exact(aj x r d j a).keep u
       ·rw[Jw (by omega),cf]at j;rw[Jw (by omega),ce]at a
        cases bv:x-gk with
        |zero=>rw[bv]at j a;simp at j a;subst j a;exact ad.keep u
        |succ J=>rw[bv]at j a;simp only[List.getElem?_cons_succ,List.singleton_append]at j a;rw[Ln]at j a;exact(aj _ r d j a).keep u
      ·show _<=ax
       rw[bs];exact cc
     by_cases bx:gk=l.length
     ·have R:Hid (av.ownsRow w.heap.size 32 1 (.slice (some ⟨cb,0,none⟩) (gk+1) au) (l.length+1) ((f.take gk++[.slice s row.length t])++f.drop gk)):=by
       have:=U I;rw[bx]at this⊢;rw[Mq (by rw[U y];exact Ji _),JD];exact this
      have c9:gk+1<=au:=by
       rcases I.2 with⟨e,_⟩|⟨g',ax,cur',e,_,_,a',_⟩
       ·cases e
       ·injection e with _ _ e;omega
      clear ar I ak u1 u2 u3 u4;subst bx;have c': ¬au<l.length+1:=by omega
      have dd:l.length-l.length=0:=by omega
      have u4:(l.length:Int)<=(m:Int):=by omega
      have u5:(0:Int)<=(l.length:Int):=by omega
      cases V with
      |none=>go_wp2;go_ret;exact⟨_,rfl,(z _ _ o R).1,(z _ _ o R).2,o⟩
      |some aD=>
       obtain⟨df,dk,dp⟩:=aD;go_wp2
       all_goals
        go_ret;exact⟨_,rfl,(z _ _ o R).1,(z _ _ o R).2,o⟩
     ·obtain⟨g,i,rfl,E,n⟩:=(U ak) (by omega)
      have dq: ¬m=gk:=by omega
      have ds:gk<m:=by omega
      have an:=ab n;clear n;go_wp2_with (at_builtin;refine JT _ rfl _ _ 42 rfl w.heap.size 32 W (.slice none 0 0) 1 24 underlying42 X Y Z ac rfl (by decide) _ _ _ rfl I ⟨g,i+gk,none⟩ (l.length-gk) (m-gk) (f.drop gk) ?c0 ?c1 ?c2 ?c3 ?c4 ?c5 ?c6 ?c7 _ rfl ?_)
      case c0=>simp[Act.eval]
      case c1=>rw[J6,U y];omega
      case c2=>
       intro hz d a;rw[Ln]at a;have:=(U an) av o (gk+hz) d a
       rwa[show(Addr.add ⟨g,i+gk,none⟩ hz)=⟨g,i+(gk+hz),none⟩from by unfold Addr.add;split<;>simp_all [Nat.add_assoc]]
      case c3=>exact fun d a=>(U bg) d (List.mem_of_mem_drop a)
      case c4=>omega
      case c5=>unfold maxLen;omega
      case c6=>omega
      case c7=>exact br
      intro bn bq O k v H _;have ay:Hid (Below w.heap.size w O):=o.grown v br (fun x e=>(I.lt x e).1)
      have bz:Hid (O.ownsRow w.heap.size 32 1 (.slice (some ⟨bn,0,none⟩) (gk+1+(l.length-gk)) bq) (l.length+1) ((f.take gk++[.slice s row.length t])++f.drop gk)):=by
       have al:gk+1+(l.length-gk)=l.length+1:=by omega
       rw[al]at k⊢;have ch:(f.take gk++[Value.slice s row.length t])++f.drop gk=f.take gk++Value.slice s row.length t::f.drop gk:=by simp
       unfold Hid;rw[ch];exact k
      clear k v H;go_wp2;go_ret;exact⟨_,rfl,(z _ _ ay bz).1,(z _ _ ay bz).2,ay⟩
def fm:List (List (List Int))->Nat->List (List Int)
 | [],_=>[]
 |l::a,n=>l.getD (n/cU a%l.length) []::fm a n
theorem pj: ∀(a:List (List (List Int))) (n:Nat),(fm a n).flatten=gj a n
 | [],_=>rfl
 |l::a,n=>by
  show l.getD _ []++(fm a n).flatten=_
  rw[pj a n];rfl
theorem qu: ∀(a:List (List (List Int))) (n:Nat),(fm a n).length=a.length
 | [],_=>rfl
 |_::a,n=>JE (· +1) (qu a n)
theorem DN{a:Type}{l:List a}{i:Nat}{d:a}(b:i<l.length):l.getD i d∈l:=by rw[JC,Jl b];exact Ky b
theorem AX(T:List Tb)(n:Nat): ∀(a:List Sr) (k:Nat) (pre:List Int),pre.length=k->iL T k a->(∀s∈a,∀r∈(T.getD s.tab bd).rows,r.length=(bh T s).length)->(∀s∈a,0<(T.getD s.tab bd).rows.length)->
  ∀(i:Nat) (s:Sr),a[i]? =some s-> ∃r,(fm (aK T a) n)[i]? =some r/\r.length=(bh T s).length/\ ∀j,j<r.length->(pre++(fm (aK T a) n).flatten).getD (s.first+j) 0=r.getD j 0
 | [],_,_,_,_,_,_,i,s,b=>by simp at b
 |x::a,k,pre,g,h,l,m,i,s,b=>by
  have p:=m x JK;have o:(T.getD x.tab bd).rows.getD (n/cU (aK T a)%(T.getD x.tab bd).rows.length) []∈(T.getD x.tab bd).rows:=DN (Nat.mod_lt (n/cU (aK T a)) p);have d:=l x JK _ o;generalize q:(T.getD x.tab bd).rows.getD (n/cU (aK T a)%(T.getD x.tab bd).rows.length) []=c at d o;have t:fm (aK T (x::a)) n=c::fm (aK T a) n:=by rw[<-q];rfl
  rw[t]
  match i,b with
  |0,b=>
   obtain rfl:x=s:=by simpa using b
   refine⟨c,rfl,d,fun j e=>?_⟩;rw[h.1,<-g,List.flatten_cons,JC,Jw (by omega),show pre.length+j-pre.length=j by omega,Jz e,<-JC]
  |i+1,b=>
   have u:(pre++c).length=k+(bh T x).length:=by rw[Jk,g,d]
   obtain⟨r,v,w,y⟩:=AX T n a _ (pre++c) u h.2 (fun s f=>l s (KQ _ f)) (fun s f=>m s (KQ _ f)) i s (by simpa using b);refine⟨r,by simpa using v,w,fun j e=>?_⟩;rw[List.flatten_cons,<-Kf];exact y j e
theorem yR{T:List Tb}{l:List (Tk×Tk)}(a: ∀s∈(aX T l).ss,∀r∈(T.getD s.tab bd).rows,r.length=(bh T s).length)(b: ∀s∈(aX T l).ss,0<(T.getD s.tab bd).rows.length)(n:Nat):DJ T (aX T l).ss (fm (aK T (aX T l).ss) n):=
 ⟨by rw[qu];simp[aK],fun i s c=>by
  obtain⟨r,d,e,f⟩:=AX T n _ 0 [] rfl (qa T l).1 a b i s c
  exact⟨r,d,e,f⟩⟩
end
end Go.Proofs.YtfkeddkfegaeiaaGreatDoor
