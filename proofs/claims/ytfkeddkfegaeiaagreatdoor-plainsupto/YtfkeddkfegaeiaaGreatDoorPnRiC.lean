import Derived.Test.YtfkeddkfegaeiaaGreatDoorPnRqX
set_option maxRecDepth 100000
set_option maxHeartbeats 20000000
namespace Go.Proofs.YtfkeddkfegaeiaaGreatDoor
section
open Go.RowKit Tryz
structure vP(T:List Tb)(ss:List Sr)(rt rn:List RT):Prop where
 lt:rt.length=ss.length
 ln:rn.length=ss.length
 at': ∀(i:Nat) (s:Sr),ss[i]? =some s-> ∃r1 r2,rt[i]? =some r1/\rn[i]? =some r2/\s.alias=r2.s/\dz T r1.s=some s.tab
theorem nQ{T:List Tb}{a:ByteArray}{j:Nat}(b:dz T a=some j): ∃t,T[j]? =some t:=by unfold dz at b;rw[LQ]at b;obtain⟨c,-⟩:=b;exact⟨_,Jl c⟩
theorem kS{pre suf:List Sr}{a:ByteArray}(b: ∀s∈pre,(s.alias.toList==a.toList)=false):ck (pre++suf) a=ck suf a:=by
 unfold ck;rw[List.find?_append];have:pre.find? (fun s=>s.alias.toList==a.toList)=none:=by rw[List.find?_eq_none];intro s c;rw[b s c];decide
 rw[this];rfl
theorem tP{s:Sr}{suf:List Sr}{a:ByteArray}(b:(s.alias.toList==a.toList)=true):ck (s::suf) a=some s:=by unfold ck;rw[List.find?_cons,b]
theorem DD(lo j:Nat)(cp:Value)(T:List Tb)(cq:T.length<=5)(aj:List RE)(cr:List RI)(A hz:List RT)(rs:List RP)(cs ct cu cv cz:Value)(e:List Sr)(N:vP T e A hz)(cF:e.length<=3)(n:Nat)(r:RE)(hn:aj[n]? =some r)(t u:Tk)(aR:r.sg=⟨#[46]⟩)(aT:r.s1=t.text)(aU:r.a1=t.place)(aV:r.s2=u.text)(a0:r.a2=u.place):yI lo j cp T aj cr A hz rs cs ct cu cv cz (n:Int) (cw T e [dl t u]):=by
 intro b l a1;obtain⟨a2,a3,cI⟩:=aC l a1 N;have cL:=ab N.lt;have O:=ab N.ln;obtain⟨ak,F,rfl,-⟩:=a1;obtain⟨a4,a5,a9,rfl⟩:=bO l.it;obtain⟨a',ba,bb,rfl⟩:=bO l.ts;obtain⟨bc,P,rfl⟩:=a8 l.tb;obtain⟨be,bg,rfl⟩:=a8 l.nm;obtain⟨g,fr,rfl,cN,fs,i⟩:=cK (f:=tJ) (k:=10) (fun _=>rfl) l.ex hn;have cR:b.cell? ⟨g,n*10,none⟩=some (.string ⟨#[46]⟩):=by rw[<-aR];exact i 0 (by omega)
 have cT:b.cell? ⟨g,n*10+1,none⟩=some (.int .i64 r.nu):=i 1 (by omega);have cV:b.cell? ⟨g,n*10+2,none⟩=some (.int .i64 r.k1):=i 2 (by omega);have cW:b.cell? ⟨g,n*10+3,none⟩=some (.int .i64 (t.place:Int)):=by rw[<-aU];exact i 3 (by omega)
 have cZ:b.cell? ⟨g,n*10+4,none⟩=some (.string t.text):=by rw[<-aT];exact i 4 (by omega)
 have c0:b.cell? ⟨g,n*10+5,none⟩=some (.int .i64 r.k2):=i 5 (by omega);have c1:b.cell? ⟨g,n*10+6,none⟩=some (.int .i64 (u.place:Int)):=by rw[<-a0];exact i 6 (by omega)
 have c2:b.cell? ⟨g,n*10+7,none⟩=some (.string u.text):=by rw[<-aV];exact i 7 (by omega)
 have c3:b.cell? ⟨g,n*10+8,none⟩=some (.int .i64 r.A):=i 8 (by omega);have c4:b.cell? ⟨g,n*10+9,none⟩=some (.int .i64 r.B):=i 9 (by omega);have c5:=l.c21;have c6:=l.lt;have c7:decide ((n:Int)<0)=false:=by simp
 have c8:j<b.heap.size+1:=by omega
 have c9:j<b.heap.size+1+1:=by omega
 have c':j<b.heap.size+1+1+1:=by omega
 have dd:g<b.heap.size+1:=by omega
 have al:g<b.heap.size+1+1:=by omega
 have bk:g<b.heap.size+1+1+1:=by omega
 have u1:(0:Int)<=(n:Int):=by omega
 have u2:(n:Int)<(aj.length:Int):=by omega
 clear l i N aT aU aV a0 aR
 obtain⟨m,B⟩: ∃m,m=((((b.alloc (.cells #[.pointer (some ⟨j,0,none⟩),.slice ak T.length F] 222)).alloc (.cells #[.slice a4 a5 a9,.slice bc A.length P,.slice be hz.length bg,.slice a' ba bb,.bool true] 105)).alloc (.cells #[.int .i64 0,.int .i64 0] 27)).alloc (.cells #[.string ⟨#[46]⟩,.int .i64 r.nu,.int .i64 r.k1,.int .i64 (t.place:Int),.string t.text,.int .i64 r.k2,.int .i64 (u.place:Int),.string u.text,.int .i64 r.A,.int .i64 r.B] 374)):=⟨_,rfl⟩
 have Q:Below b.heap.size b m:=by rw[B];exact((((Jj _ _).alloc (Ji _) _).alloc (by simp) _).alloc (by simp;omega) _).alloc (by simp;omega) _
 have bl:m.heap[b.heap.size]? =some (.cells #[.pointer (some ⟨j,0,none⟩),.slice ak T.length F] 222 (0,0)):=by rw[B];exact ai (ai (ai (af rfl)))
 have bn:m.heap[b.heap.size+1]? =some (.cells #[.slice a4 a5 a9,.slice bc A.length P,.slice be hz.length bg,.slice a' ba bb,.bool true] 105 (0,0)):=by rw[B];exact ai (ai (af (by simp)))
 have bq:m.heap[b.heap.size+1+1]? =some (.cells #[.int .i64 0,.int .i64 0] 27 (0,0)):=by rw[B];exact ai (af (by simp))
 have br:m.heap[b.heap.size+1+1+1]? =some (.cells #[.string ⟨#[46]⟩,.int .i64 r.nu,.int .i64 r.k1,.int .i64 (t.place:Int),.string t.text,.int .i64 r.k2,.int .i64 (u.place:Int),.string u.text,.int .i64 r.A,.int .i64 r.B] 374 (0,0)):=by rw[B];exact af (by simp)
 go_enter func205,ntmps205;go_wp2_with fail;rw[<-B];clear B;obtain⟨bs,df,dk,bt,bu,bv,bx⟩:=sq Q (a2.keep Q) (a3.keep Q) bl bn bq br;have ft:hz.length<=3:=by rw[U O];exact cF
 clear Q bl bn bq br cR cT cV cW cZ c0 c1 c2 c3 c4 c5 c6 c8 c9 c' cN dd al bk u1 u2 c7 a2 a3
 go_loopg [8] hz.length (fun f dp c=> ∃k:Nat,k+f=hz.length/\dp=.int .i64 (k:Nat)/\(∀d∈e.take k,(d.alias.toList==t.text.toList)=false)/\Below m.heap.size m c)
 case atStart=>exact⟨0,by omega,rfl,(fun d dq=>by simp at dq),Jj _ _⟩
 case round=>
  obtain⟨k,fv,rfl,bz,o⟩:=hrel;have R:=(o.block _ (aa bt)).trans bt;have S:=(o.block _ (aa bu)).trans bu;have s:=(o.block _ (aa bv)).trans bv;have x:=(o.block _ (aa bx)).trans bx;obtain⟨an,ds⟩:=blk R;obtain⟨bA,dw⟩:=blk S;obtain⟨G,bF⟩:=blk s;obtain⟨bG,bJ⟩:=blk x;have bL:=aa R;have dT:=aa S;have d':=aa s;have ea:=aa x;obtain⟨fw,fx,eb,ed,bN,bS⟩:=io R S s x (df.keep o) (dk.keep o);have ao:Hid (Below b.heap.size b wr):=bs.trans (o.mono bs.size);obtain⟨ef,ap⟩:=ag o bz;clear bz o R S s x;by_cases eg:k<hz.length
  ·have ei:decide (k<hz.length)=true:=by simp;omega
   obtain⟨ar,rfl⟩: ∃ar,gk=ar+1:=⟨gk-1,by omega⟩
   obtain⟨d,V⟩: ∃d,e[k]? =some d:=⟨_,Jl (by rw[<-U O];exact eg)⟩
   obtain⟨H,fy,bX,b0,b1,b2⟩:=cI.at' k d V;obtain⟨en,fz,au,bk,-,b3⟩:=cK (f:=pI) (k:=3) (fun _=>rfl) bN.nm b0;injection au with au eo ep;clear eo;subst au ep;have eq:wr.cell? ⟨en,k*3+2,none⟩=some (.string d.alias):=by rw[b1];exact b3 2 (by omega)
   have fO:(0:Int)<=(k:Int):=by omega
   have f':(k:Int)<(hz.length:Int):=by omega
   have er:Hid (e.take (k+1)=e.take k++[d]):=by unfold Hid;rw[K',V];rfl
   obtain⟨es,et,b4⟩:=aC V bX b2;clear b3 bX b0 V b1 b2
   cases b5:(d.alias.toList==t.text.toList)with
   |true=>
    go_wp2_with fail
    go_region
    obtain⟨I,ga,av,al,-,b6⟩:=cK (f:=pI) (k:=3) (fun _=>rfl) bN.tb et;injection av with av ev ex;clear ev;subst av ex;have b7:wr.cell? ⟨I,k*3+2,none⟩=some (.string H.s):=b6 2 (by omega);have gb:(k:Int)<(A.length:Int):=by rw[U cL,<-U O];omega
    have b9:wr.cell? ⟨b.heap.size,0,none⟩=some (.pointer (some ⟨j,0,none⟩)):=an 0;have b':wr.cell? ⟨b.heap.size,1,none⟩=some (.slice ak T.length F):=an 1;have ca:wr.cell? ⟨b.heap.size+1,1,none⟩=some (.slice (some ⟨I,0,none⟩) A.length P):=bA 1;obtain⟨tt,W⟩:=nQ b4;have ez:Hid (gH T H.s=(d.tab:Int)):=by unfold Hid gH;rw[U b4]
    have gc:d.tab<T.length:=(Jy.1 W).1;have eN:=ab W;obtain⟨gf,gg,ax,-,-,cb⟩:=U bS;injection ax with ax eR eT;clear eR;subst ax eT;obtain⟨y,z,rfl,ay,C⟩:=cb (by omega);obtain⟨eX,e0,e1,d0,d1,d2⟩:=C d.tab tt W;obtain⟨e2,e3,J,cc,-,⟨cd,⟨ce,cf,e4,-,-⟩,-,-⟩⟩:=e1;have e5:eX=e2:=by simp at J;exact J.1
    have e6:e0=e3:=by simp at J;exact J.2
    subst e5 e6 e4;have cg:=ab cc;obtain⟨X,Y,e7,-,-⟩:=cc;subst e7;rw[Jm]at d1;have gi:(0:Int)<=(d.tab:Int):=by omega
    have gl:(d.tab:Int)<(T.length:Int):=by omega
    clear b6 W an bA cb C J;have e8:Hid (∀c,Below wr.heap.size wr c->Calls prog 130 #[.agg #[.pointer (some ⟨j,0,none⟩),.slice (some ⟨y,z,none⟩) T.length F],.string H.s] c fun K Z=>K=.returned (.int .i64 (d.tab:Int))/\Below c.heap.size c Z):=fun c aA=>by have:=nj c (some ⟨j,0,none⟩) _ T (bS.keep aA) cq H.s;rw[U ez]at this;exact this
    go_upto_region 9 with(fail)
    go_cut [9]from 42 to 53 (fun e9 c=> ∃ac,e9=.pointer (some ⟨ac,0,none⟩)/\wr.heap.size<=ac/\Below wr.heap.size wr c/\c.heap[ac]? =some (.cells #[.string tt.name,.slice X tt.cols.length Y,.slice ce cd.length cf] 204 (0,0)))
    case first=>
     go_region_held3 (fun c=>c.cell? ⟨b.heap.size,0,none⟩=some (.pointer (some ⟨j,0,none⟩))/\c.cell? ⟨b.heap.size,1,none⟩=some (.slice (some ⟨y,z,none⟩) T.length F)/\c.cell? ⟨b.heap.size+1,1,none⟩=some (.slice (some ⟨I,0,none⟩) A.length P)/\c.cell? ⟨I,k*3+2,none⟩=some (.string H.s)/\c.cell? ⟨y,z+d.tab*3,none⟩=some (.string tt.name)/\c.cell? ⟨y,z+d.tab*3+1,none⟩=some (.slice X tt.cols.length Y)/\c.cell? ⟨y,z+d.tab*3+2,none⟩=some (.slice ce cd.length cf)) (first|go_keep|(refine⟨?_,?_,?_,?_,?_,?_,?_⟩<;>(rw[dj _ _ _ _ (by omega),dj _ _ _ _ (by omega),dj _ _ _ _ (by omega)];assumption))) (first
      |(go_at_call 130;refine(e8 _ (by repeat(first|exact Jj _ _|apply JI|refine JY ?_ (by first|exact Ji _|simp) _))).mono ?_;rintro K ch ⟨rfl,aI⟩;have w:Below wr.heap.size wr ch:=Kn (by repeat(first|exact Jj _ _|apply JI|refine JY ?_ (by first|exact Ji _|simp) _)) (aI.mono (by first|exact Ji _|simp));have gm:=(w.cell (p:=⟨b.heap.size,0,none⟩) bL).trans b9;have gn:=(w.cell (p:=⟨b.heap.size,1,none⟩) bL).trans b';have gq:=(w.cell (p:=⟨b.heap.size+1,1,none⟩) dT).trans ca;have gr:=(w.cell (p:=⟨I,k*3+2,none⟩) al).trans b7;have gs:=(w.cell (p:=⟨y,z+d.tab*3,none⟩) ay).trans d0;have gt:=(w.cell (p:=⟨y,z+d.tab*3+1,none⟩) ay).trans d1;have gw:=(w.cell (p:=⟨y,z+d.tab*3+2,none⟩) ay).trans d2;have ad:=ab w;(try(have L:ch.heap[wr.heap.size]? =some (.cells #[.string ⟨#[]⟩,.slice none 0 0,.slice none 0 0] 204 (0,0)):=(aI.block wr.heap.size (by simp)).trans (af rfl);obtain⟨gx,gy⟩:=blk L;have gJ:=aa L;have e':=ab L;clear L));clear aI w))
     all_goals
      go_wp2_with fail;go_meet
      case rel=>
       first
        |exact⟨_,rfl,Ji _,((ad.setCell (Ji _) _).setCell (Ji _) _).setCell (Ji _) _,(am (am (am e' _) _) _).trans rfl⟩
        |exact⟨_,rfl,ad.size,ad.alloc ad.size _,af rfl⟩
    case rest=>
     obtain⟨ac,rfl,L,D,C⟩:=hcut;generalize wc=M at*;have ci:aS M (.slice X tt.cols.length Y) (aB tt.cols):=by have:=cg.keep D;rw[Jm]at this;exact this
     have s:=(D.block _ d').trans eb;have x:=(D.block _ ea).trans ed;have cj:=ab ci;have cl:Hid (Below b.heap.size b M):=ao.trans (D.mono ao.size);have gQ:=D.size;clear D ci b9 b' ca b7 d0 d1 d2 G bF bG bJ eq ds dw;obtain⟨gW,g0⟩:=blk C;obtain⟨G,bF⟩:=blk s;obtain⟨bG,bJ⟩:=blk x;have g1:=aa C;have g2:=aa s;have g3:=aa x;have g4:=ab s;clear C s x
     have E:Hid (cw T e [dl t u]=if Lib.idxOfS tt.cols u.text<0 then some (u.place,eW)else none):=by
      have fa:ck e (dl t u).s1=some d:=by
       have fb:e=e.take k++d::e.drop (k+1):=by
        conv=>lhs;rw[<-KK k e]
        congr 1
        obtain⟨fc,fe⟩:=Jy.1 es;rw[Kz fc,fe]
       rw[fb];exact(kS ap).trans (tP b5)
      have fg:bh T d=tt.cols:=by unfold bh;rw[JC,U eN];rfl
      unfold Hid;rw[dc];have aJ:eA T e (dl t u)=if Lib.idxOfS tt.cols u.text<0 then some (u.place,eW)else none:=by unfold eA;rw[Jo (show(dl t u).tag=2 from rfl),fa];show(if Lib.idxOfS (bh T d) u.text<0 then _ else _)=_;rw[fg];rfl
      rw[aJ];exact lj _
     have fk:Hid (∀c,Below M.heap.size M c->Calls prog 85 #[.slice X tt.cols.length Y,.string u.text] c fun K Z=>K=.returned (.int .i64 (Lib.idxOfS tt.cols u.text))/\Z=c):=fun c aA=>lJ _ tt.cols u.text c (cj.keep aA);clear cj cg;generalize Lib.idxOfS tt.cols u.text=aL at*;go_wp2_with fail;refine(fk M (Jj _ _)).mono ?_;rintro K Z ⟨rfl,fl⟩;obtain rfl:=fl.symm;by_cases ae:aL<0
     ·have fn:decide (aL<0)=true:=by simp[ae]
      rw[Jo ae]at E;go_wp2;refine Jr (v:=.agg #[.int .i64 6,.int .i64 (u.place:Int)]) (by simp[results,results205,go_sem,G]) rfl ⟨by rw[U E];rfl,?_⟩
      repeat(first|exact U cl|apply JI|refine J0 ?_ (by show b.heap.size<=b.heap.size+1+1;omega) _)
     ·have fn:decide (aL<0)=false:=by simp[ae]
      rw[Jn ae]at E;go_wp2;refine Jr (v:=.agg #[.int .i64 0,.int .i64 0]) (by simp[results,results205,go_sem,G]) rfl ⟨by rw[U E];rfl,?_⟩
      repeat(first|exact U cl|apply JI|refine J0 ?_ (by show b.heap.size<=b.heap.size+1+1;omega) _)
   |false=>
    have fo:Hid (∀aN∈e.take (k+1),(aN.alias.toList==t.text.toList)=false):=by
     unfold Hid;rw[U er];intro aN fp;rcases JW.1 fp with q|q
     ·exact ap aN q
     ·rw[JN]at q;rw[q];exact b5
    go_wp2_with fail
    go_region
    go_wp2;go_roundg ar
    case measure=>simp
    case rel=>exact⟨k+1,by omega,by go_num,fo,ef.drew⟩
  ·have ei:decide (k<hz.length)=false:=by simp;omega
   have E:Hid (cw T e [dl t u]=some (t.place,dY)):=by
    have hn:=kS (suf:=[]) (pre:=e) (a:=t.text) (by
     have:=U ap;rw[JJ (by rw[<-U O];omega)]at this
     exact this)
    rw[JD]at hn;have fq:ck e (dl t u).s1=none:=hn;have aJ:eA T e (dl t u)=some (t.place,dY):=by unfold eA;rw[Jo (show(dl t u).tag=2 from rfl),fq];rfl
    unfold Hid;rw[dc,aJ];rfl
   go_wp2;refine Jr (v:=.agg #[.int .i64 5,.int .i64 (t.place:Int)]) (by simp[results,results205,go_sem,G]) rfl ⟨by rw[U E];rfl,?_⟩;exact(ao.setCell (by show b.heap.size<=b.heap.size+1+1;omega) _).setCell (by show b.heap.size<=b.heap.size+1+1;omega) _
theorem DE(lo g:Nat)(h:Value)(T:List Tb)(y:T.length<=5)(d:List RE)(i:List RI)(e f:List RT)(rs:List RP)(j l m o p:Value)(q:List Sr)(z:vP T q e f)(A:q.length<=3){n:Int}{k:List Nd}(b:fF d n k):yI lo g h T d i e f rs j l m o p n (cw T q k):=by
 have s:=DC lo g h T d i e f rs j l m o p
 induction b with
 |num n c w b a r t u=>have:=qt lo g h T d i e f rs j l m o p n c b (by rw[a,JA];rfl) none none (by rw[t];exact s) (by rw[u];exact s);exact this
 |col n c w B b a r t u C=>exact DD lo g h T y d i e f rs j l m o p q z A n c b w B a r t u C
 |minus n c x k b a r _ v=>have:=qt lo g h T d i e f rs j l m o p n c b (by rw[a,JA];rfl) _ none v (by rw[r];exact s);rw[lj]at this;rw[dc];exact this
 |br n x k _ v=>rw[dc];exact v
 |pair n c x k G b a _ _ D E=>
  have F:(c.sg.toList== [46])=false:=by
   rcases a with a|a
   ·rw[a,JA];rfl
   ·unfold kj at a;simp only[JG,JO,Kg]at a;rcases a with a|a<;>(rw[a,JA];rfl)
  have:=qt lo g h T d i e f rs j l m o p n c b F _ _ D E;rw[dc,mX];exact this
theorem tQ{T:List Tb}{f:Fs}{x:Tk×Tk}{e:Nat×Nat}(a:f.er=some e):(bW T f x).er=some e:=by
 unfold bW;split
 ·show bQ f.er _=_
  rw[a];rfl
 ·show bQ f.er _=_
  rw[a];rfl
theorem yK{T:List Tb}: ∀(l:List (Tk×Tk)) (f:Fs) {e:Nat×Nat},f.er=some e->(l.foldl (bW T) f).er=some e
 | [],_,_,a=>a
 |x::r,f,_,a=>yK r (bW T f x) (tQ a)
theorem yL{T:List Tb}{pre suf:List (Tk×Tk)}{e:Nat×Nat}(a:(aX T pre).er=some e):(aX T (pre++suf)).er=some e:=by unfold aX;rw[LO];exact yK suf _ a
structure BR(T:List Tb)(l:List (Tk×Tk))(ss:List Sr):Prop where
 len:ss.length=l.length
 at': ∀(i:Nat) (p:Tk×Tk),l[i]? =some p-> ∃s,ss[i]? =some s/\s.alias=p.2.text/\dz T p.1.text=some s.tab
theorem yM{b:Type}{P:List b->Prop}(c:P [])(d: ∀l x,P l->P (l++[x]))(l:List b):P l:=by
 have: ∀a:List b,P a.reverse:=fun a=>by
  induction a with
  |nil=>exact c
  |cons g a e=>rw[List.reverse_cons];exact d _ _ e
 have f:=this l.reverse
 rwa[List.reverse_reverse]at f
theorem lA{T:List Tb}(l:List (Tk×Tk)):(aX T l).er=none->BR T l (aX T l).ss:=by
 refine yM (P:=fun l=>(aX T l).er=none->BR T l (aX T l).ss) ?_ ?_ l
 ·exact fun _=>⟨rfl,fun d e c=>by simp at c⟩
 ·intro a f m b;rw[kI]at b⊢
  have i:(aX T a).er=none:=by
   cases n:(aX T a).er with
   |none=>rfl
   |some c=>rw[tQ n]at b;cases b
  have g:=m i
  cases h:dz T f.1.text with
  |none=>unfold bW at b;rw[h]at b;simp only at b;rw[i]at b;cases b
  |some j=>
   have o:(bW T (aX T a) f).ss=(aX T a).ss++[⟨f.2.text,j,(aX T a).wd⟩]:=by unfold bW;rw[h]
   rw[o];refine⟨by rw[Jk,Jk,g.len];rfl,fun d e c=>?_⟩;by_cases k:d<a.length
   ·rw[Jz k]at c;obtain⟨p,q,r,s⟩:=g.at' d e c;exact⟨p,by rw[Jz (by rw[g.len];exact k)];exact q,r,s⟩
   ·have t:d=a.length:=by
     have:=(Jy.1 c).1;rw[Jk,JZ]at this;omega
    subst t;have u:e=f:=by simpa using c.symm
    subst u;exact⟨⟨e.2.text,j,(aX T a).wd⟩,by rw[<-g.len];simp,rfl,h⟩
theorem DF{T:List Tb}{pre:List (Tk×Tk)}{x:Tk×Tk}(a:(aX T pre).er=none)(b:dz T x.1.text=none):(aX T (pre++[x])).er=some (x.1.place,dY):=by
 rw[kI];unfold bW;rw[b]
 show bQ (aX T pre).er _=_
 rw[a];rfl
theorem BS{T:List Tb}{pre:List (Tk×Tk)}{x:Tk×Tk}{j:Nat}(a:(aX T pre).er=none)(b:dz T x.1.text=some j){i:Nat}{p:Tk×Tk}(c:pre[i]? =some p)(d:(p.2.text.toList==x.2.text.toList)=true):(aX T (pre++[x])).er=some (x.2.place,iJ):=by
 obtain⟨e,f,g,-⟩:=(lA pre a).at' i p c;have h:(ck (aX T pre).ss x.2.text).isSome=true:=by unfold ck;rw[List.find?_isSome];exact⟨e,JL f,by rw[g];exact d⟩
 rw[kI];unfold bW;rw[b]
 show bQ (aX T pre).er _=_
 rw[a,h];rfl
theorem DG{T:List Tb}{pre:List (Tk×Tk)}{x:Tk×Tk}{j:Nat}(b:(aX T pre).er=none)(g:dz T x.1.text=some j)(hn: ∀p∈pre,(p.2.text.toList==x.2.text.toList)=false):(aX T (pre++[x])).er=none:=by
 have h:(ck (aX T pre).ss x.2.text).isSome=false:=by rw[Bool.eq_false_iff];intro c;unfold ck at c;rw[List.find?_isSome]at c;obtain⟨m,i,e⟩:=c;obtain⟨k,f⟩:=Lh i;have d:=(Jy.1 f).1;rw[(lA pre b).len]at d;obtain⟨n,a,l,-⟩:=(lA pre b).at' k _ (Jl d);rw[f]at a;injection a with a;subst a;have:=hn _ (Ky d);rw[l,this]at e;cases e
 rw[kI];unfold bW;rw[g]
 show bQ (aX T pre).er _=_
 rw[b,h];rfl
theorem BR.ssr{T:List Tb}{l:List (Tk×Tk)}{d:List Sr}(a:BR T l d){e f:List RT}(g:di (fun r (p:Tk×Tk)=>me r p.1) e l)(hn:di (fun r (p:Tk×Tk)=>me r p.2) f l):vP T d e f:=by
 refine⟨by rw[a.len,g.len],by rw[a.len,hn.len],fun h v i=>?_⟩;have j:=(Jy.1 i).1;rw[a.len]at j
 obtain⟨p,c⟩: ∃p,l[h]? =some p:=⟨_,Jl j⟩
 obtain⟨k,m,n⟩:=g.at c;obtain⟨o,q,s⟩:=hn.at c;obtain⟨w,b,t,u⟩:=a.at' h p c;rw[i]at b;injection b with b;subst b;exact⟨k,o,m,q,by rw[t,s.2],by rw[n.2];exact u⟩
theorem gM{b:Type}(f:b->Option (Nat×Nat)): ∀(l:List b) (e:Nat×Nat),l.foldl (fun a u=>bQ a (f u)) (some e)=some e
 | [],_=>rfl
 |_::r,e=>gM f r e
theorem jD{b:Type}(f:b->Option (Nat×Nat))(l:List b)(x:b)(a:Option (Nat×Nat)):(l++[x]).foldl (fun a u=>bQ a (f u)) a=bQ (l.foldl (fun a u=>bQ a (f u)) a) (f x):=by rw[LO];rfl
theorem mB(a:Option (Nat×Nat)): ∃b d:Int,oI a=.agg #[.int .i64 b,.int .i64 d]/\(b !=0)=a.isSome:=by
 cases a with
 |none=>exact⟨0,0,rfl,rfl⟩
 |some c=>refine⟨gX c.2,c.1,rfl,?_⟩;simp only[Option.isSome_some,KZ,ne_eq];exact qQ _
theorem Fv(w:World)(lo z:Nat)(eN:Value)(T:List Tb)(eR:T.length<=5)(ce:List RE)(m:List RI)(l q:List RT)(rs:List RP)(eT eX e0 e1 c2:Value)(S:PQ w lo z ce m l q rs eT eX e0 e1 c2)(c3:bp w eN T)(x:dP)(b4:qn ce m l q rs x)(e2: ∀i∈x.items,i.win=none)(h7:x.srcs.length<=3)(h8:x.items.length<=6)(h9:x.tests.length<=1000)(b:Bool)(t:Fs)(e3:t=aX T x.srcs)(R:Option (Nat×Nat))(e4:R=x.tests.foldl (fun a u=>bQ a (gd T t.ss u)) (x.items.foldl (fun a e=>bQ a (pG T e t.ss)) t.er)):
  Calls prog 129 #[.agg #[.pointer (some ⟨z,0,none⟩),eN],si eT eX e0 e1,.bool b] w fun e w'=>e=.returned (oI R)/\Below w.heap.size w w':=by
 obtain⟨bx,b5,bz,ho⟩:=aP b4 e3 e4 e2;have e5:l.length=x.srcs.length:=b4.tabs.len;have e6:q.length=x.srcs.length:=b4.names.len;have e7:m.length=x.items.length:=b4.items.len;have e8:rs.length=x.tests.length:=b4.tests.len;have hp:l.length<=3:=by omega
 have h':q.length<=3:=by omega
 have ic:m.length<=6:=by omega
 have ih:rs.length<=1000:=by omega
 obtain⟨c4,ik,e9,e'⟩:=aP e5 e6 e7 e8;have il:=S.lt;obtain⟨J,K,rfl,-⟩:=id c3;obtain⟨be,ac,rfl⟩:=a8 S.it;obtain⟨ad,M,rfl⟩:=a8 S.tb;obtain⟨ae,V,rfl⟩:=a8 S.nm;obtain⟨b6,aj,rfl⟩:=a8 S.ts
 obtain⟨o,b7⟩: ∃o,o=(((w.alloc (.cells #[.pointer (some ⟨z,0,none⟩),.slice J T.length K] 222)).alloc (.cells #[.slice be m.length ac,.slice ad l.length M,.slice ae q.length V,.slice b6 rs.length aj,.bool true] 105)).alloc (.cells #[.int .i64 0,.int .i64 0] 27)):=⟨_,rfl⟩
 have ct:Below w.heap.size w o:=by rw[b7];exact(((Jj _ _).alloc (Ji _) _).alloc (by simp) _).alloc (by simp;omega) _
 have fa:o.heap[w.heap.size]? =some (.cells #[.pointer (some ⟨z,0,none⟩),.slice J T.length K] 222 (0,0)):=by rw[b7];exact ai (ai (af rfl))
 have fb:o.heap[w.heap.size+1]? =some (.cells #[.slice be m.length ac,.slice ad l.length M,.slice ae q.length V,.slice b6 rs.length aj,.bool true] 105 (0,0)):=by rw[b7];exact ai (af (by simp))
 have c5:o.heap[w.heap.size+1+1]? =some (.cells #[.int .i64 0,.int .i64 0] 27 (0,0)):=by rw[b7];exact af (by simp)
 obtain⟨b9,cu,cv,bg,bk,aT⟩:=io ct (S.keep ct) (c3.keep ct) fa fb c5;have hq:=aa c5;clear S c3 b4 e3 e4 e2 e5 e6 e7 e8 ct fa fb c5;go_enter func129,ntmps129;go_wp2_with fail;rw[<-b7];clear b7
 go_loopg [7] l.length (fun f i c=> ∃k:Nat,k+f=l.length/\i=.int .i64 (k:Nat)/\(aX T (x.srcs.take k)).er=none/\Below o.heap.size o c)
 case atStart=>exact⟨0,by omega,rfl,rfl,Jj _ _⟩
 case round=>
  obtain⟨k,hr,rfl,bl,n⟩:=hrel;have C:=(n.block _ (aa bg)).trans bg;have D:=(n.block _ (aa bk)).trans bk;have h:=(n.block _ (aa aT)).trans aT;obtain⟨H,aU⟩:=blk C;obtain⟨r,aV⟩:=blk D;obtain⟨E,W⟩:=blk h;have ak:=aa C;have A:=aa D;have bA:=aa h;obtain⟨fc,fe,b',al,fg⟩:=dD C D h (cu.keep n) (cv.keep n);have bF:Hid (Below w.heap.size w wr):=b9.trans (n.mono b9.size);obtain⟨y,L⟩:=ag n bl;clear bl n C D h;by_cases fk:k<l.length
  ·have bG:decide (k<l.length)=true:=by simp;omega
   obtain⟨an,rfl⟩: ∃an,gk=an+1:=⟨gk-1,by omega⟩
   obtain⟨p,cf⟩: ∃p,x.srcs[k]? =some p:=⟨_,Jl (by rw[<-U c4];exact fk)⟩
   obtain⟨s,bn,ax⟩:=bx.tabs.at cf;obtain⟨ip,fl,c6⟩:=bx.names.at cf;obtain⟨bq,iq,a0,fn,-,F⟩:=cK (f:=pI) (k:=3) (fun _=>rfl) al.tb bn;injection a0 with a0 hs ht;clear hs;subst a0 ht;obtain⟨ay,ir,c7,fo,it,ca⟩:=cK (f:=pI) (k:=3) (fun _=>rfl) al.nm fl;injection c7 with c7 hu hv;clear hu;subst c7 hv;have bJ:wr.cell? ⟨bq,k*3+1,none⟩=some (.int .i64 (p.1.place:Int)):=by rw[<-ax.1];exact F 1 (by omega)
   have a1:wr.cell? ⟨bq,k*3+2,none⟩=some (.string p.1.text):=by rw[<-ax.2];exact F 2 (by omega)
   have fp:wr.cell? ⟨ay,k*3+1,none⟩=some (.int .i64 (p.2.place:Int)):=by rw[<-c6.1];exact ca 1 (by omega)
   have fq:wr.cell? ⟨ay,k*3+2,none⟩=some (.string p.2.text):=by rw[<-c6.2];exact ca 2 (by omega)
   have fr:(0:Int)<=(k:Int):=by omega
   have fs:(k:Int)<(l.length:Int):=by omega
   have iv:(k:Int)<(q.length:Int):=by omega
   have a2:Hid (x.srcs.take (k+1)=x.srcs.take k++[p]):=by unfold Hid;rw[K',cf];rfl
   have iw:=ab cf;have hw:Hid (∀c,Below wr.heap.size wr c->Calls prog 130 #[.agg #[.pointer (some ⟨z,0,none⟩),.slice J T.length K],.string p.1.text] c fun e w'=>e=.returned (.int .i64 (gH T p.1.text))/\Below c.heap.size c w'):=fun c aA=>nj c (some ⟨z,0,none⟩) _ T (fg.keep aA) eR p.1.text;clear F ca bn fl ax c6 cf;have X:wr.cell? ⟨w.heap.size,0,none⟩=some (.pointer (some ⟨z,0,none⟩)):=H 0;have Y:wr.cell? ⟨w.heap.size,1,none⟩=some (.slice J T.length K):=H 1;have N:wr.cell? ⟨w.heap.size+1,1,none⟩=some (.slice (some ⟨bq,0,none⟩) l.length M):=r 1;have Z:wr.cell? ⟨w.heap.size+1,2,none⟩=some (.slice (some ⟨ay,0,none⟩) q.length V):=r 2;clear H
   go_upto_region 4 with(fail)
   go_region_held3 (fun c=>c.cell? ⟨w.heap.size,0,none⟩=some (.pointer (some ⟨z,0,none⟩))/\c.cell? ⟨w.heap.size,1,none⟩=some (.slice J T.length K)/\c.cell? ⟨w.heap.size+1,1,none⟩=some (.slice (some ⟨bq,0,none⟩) l.length M)/\c.cell? ⟨bq,k*3+2,none⟩=some (.string p.1.text)) (go_keep) (first
    |(go_at_call 130;refine(hw _ (by exact(Jj _ _).drew)).mono ?_;rintro e aI ⟨rfl,ft⟩;have B:Below wr.heap.size wr aI:=(Jj _ _).drew.trans ft;have cz:=(B.cell (p:=⟨w.heap.size,0,none⟩) ak).trans X;have cF:=(B.cell (p:=⟨w.heap.size,1,none⟩) ak).trans Y;have cI:=(B.cell (p:=⟨w.heap.size+1,1,none⟩) A).trans N;have cL:=(B.cell (p:=⟨bq,k*3+2,none⟩) fn).trans a1;have fv:=ab B;clear ft B))
   have B:=U fv;have hx:=(B.cell (p:=⟨bq,k*3+1,none⟩) fn).trans bJ;have fw:=(B.cell (p:=⟨ay,k*3+1,none⟩) fo).trans fp;have fx:=(B.cell (p:=⟨ay,k*3+2,none⟩) fo).trans fq;have fy:=(B.cell (p:=⟨w.heap.size+1,2,none⟩) A).trans Z;have hy:=(B.cell (p:=⟨w.heap.size+1,1,none⟩) A).trans N;have h:=(B.block _ bA).trans b';clear cz cF cI cL X Y N Z bJ a1 fp fq E W r aV aU;obtain⟨E,W⟩:=blk h;have ix:=B.size;have c8:w.heap.size<aI.heap.size:=by omega
   have bL:w.heap.size+1<aI.heap.size:=by omega
   have c9:w.heap.size+1+1<aI.heap.size:=by omega
   have iA:bq<aI.heap.size:=by omega
   have fz:ay<aI.heap.size:=by omega
   have a3:Hid (Below o.heap.size o aI):=y.trans (B.mono y.size);have fO:Hid (Below w.heap.size w aI):=bF.trans (B.mono bF.size);have hz:=ab (al.keep B);clear B h fv
   cases cg:dz T p.1.text with
   |none=>
    have a4:Hid (R=some (p.1.place,dY)):=by have a5:=DF L cg;rw[<-U a2]at a5;have a0:=yL (suf:=x.srcs.drop (k+1)) a5;rw[KK,<-U b5]at a0;unfold Hid;rw[U bz,a0,gM,gM]
    have ch:gH T p.1.text= -1:=by unfold gH;rw[cg]
    rw[ch];clear ch;go_wp2_with fail;refine Jr (v:=.agg #[.int .i64 5,.int .i64 (p.1.place:Int)]) (by simp[results,results129,go_sem,E]) rfl ⟨by rw[U a4];rfl,?_⟩;exact(fO.setCell (by show w.heap.size<=w.heap.size+1+1;omega) _).setCell (by show w.heap.size<=w.heap.size+1+1;omega) _
   |some j=>
    have ch:gH T p.1.text=(j:Int):=by unfold gH;rw[cg]
    rw[ch];have i0:decide ((j:Int)<0)=false:=by simp
    have f':=ab cg;clear ch cg;go_wp2_with fail
    go_loopg [8] k (fun f i c=> ∃d:Nat,d+f=k/\i=.int .i64 (d:Nat)/\(∀a9∈x.srcs.take d,(a9.2.text.toList==p.2.text.toList)=false)/\Below aI.heap.size aI c)
    case atStart=>exact⟨0,by omega,rfl,(fun a9 c'=>by simp at c'),Jj _ _⟩
    case round=>
     obtain⟨d,ga,rfl,gb,aJ⟩:=hrel;have t1:=(aJ.cell (p:=⟨ay,k*3+1,none⟩) fz).trans fw;have t2:=(aJ.cell (p:=⟨ay,k*3+2,none⟩) fz).trans fx;have t3:=(aJ.cell (p:=⟨w.heap.size+1,2,none⟩) bL).trans fy;have h:=(aJ.block _ c9).trans (a3.block _ hq|>.trans aT);have i1:=aJ.size;have i2:w.heap.size<wr.heap.size:=by omega
     have i3:w.heap.size+1<wr.heap.size:=by omega
     have i4:w.heap.size+1+1<wr.heap.size:=by omega
     have i5:ay<wr.heap.size:=by omega
     clear E W;obtain⟨E,W⟩:=blk h;obtain⟨gc,gf⟩:=ag aJ gb;clear gb h;by_cases cN:d<k
     ·have hA:decide ((d:Int)<(k:Int))=true:=by simp;omega
      obtain⟨bN,rfl⟩: ∃bN,gk=bN+1:=⟨gk-1,by omega⟩
      obtain⟨a9,S⟩: ∃a9,x.srcs[d]? =some a9:=⟨_,Jl (by rw[<-U c4];omega)⟩
      obtain⟨i6,gg,gi⟩:=bx.names.at S;obtain⟨I,hB,ao,-,-,ca⟩:=cK (f:=pI) (k:=3) (fun _=>rfl) (hz.keep aJ).nm gg;injection ao with ao dd df;injection ao with ao;injection ao with ao _ _;subst ao;have t4:wr.cell? ⟨ay,d*3+2,none⟩=some (.string a9.2.text):=by rw[<-gi.2];exact ca 2 (by omega)
      have hC:=ab S;have hD:Hid (x.srcs.take (d+1)=x.srcs.take d++[a9]):=by unfold Hid;rw[K',S];rfl
      have i8:(0:Int)<=(d:Int):=by omega
      have i9:(d:Int)<(q.length:Int):=by omega
      clear ca gg gi S dd df aJ hx fw fx fy hy
      cases gl:(a9.2.text.toList==p.2.text.toList)with
      |true=>
       have a4:Hid (R=some (p.2.place,iJ)):=by
        have hE:(x.srcs.take k)[d]? =some a9:=by rw[Kh cN];exact hC
        have a5:=BS L f' hE gl;rw[<-U a2]at a5;have a0:=yL (suf:=x.srcs.drop (k+1)) a5;rw[KK,<-U b5]at a0;unfold Hid;rw[U bz,a0,gM,gM]
       have hF:Hid (Below w.heap.size w wr):=fO.trans (gc.mono (by omega));go_wp2_with fail
       go_region
       go_wp2_with fail;refine Jr (v:=.agg #[.int .i64 7,.int .i64 (p.2.place:Int)]) (by simp[results,results129,go_sem,E]) rfl ⟨by rw[U a4];rfl,?_⟩
       repeat(first|exact U hF|apply JI|refine J0 ?_ (by show w.heap.size<=w.heap.size+1+1;omega) _)
      |false=>
       have hG:Hid (∀dk∈x.srcs.take (d+1),(dk.2.text.toList==p.2.text.toList)=false):=by
        unfold Hid;rw[U hD];intro dk hH;rcases JW.1 hH with G|G
        ·exact gf dk G
        ·rw[JN]at G;rw[G];exact gl
       go_wp2_with fail
       go_region
       go_wp2;go_roundg bN
       case measure=>simp
       case rel=>exact⟨d+1,by omega,by go_num,hG,gc.drew⟩
     ·have hA:decide ((d:Int)<(k:Int))=false:=by simp;omega
      have gm:d=k:=by omega
      have ci:Hid ((aX T (x.srcs.take (k+1))).er=none):=by unfold Hid;rw[U a2];refine DG L f' ?_;have:=U gf;rw[gm]at this;exact this
      have dp:Hid (Below o.heap.size o wr):=a3.trans (aJ.mono a3.size);clear gm aJ;go_wp2;go_roundg an
      case measure=>simp
      case rel=>exact⟨k+1,by omega,by go_num,ci,dp⟩
  ·have bG:decide (k<l.length)=false:=by simp;omega
   have gn:k=l.length:=by omega
   have dq:t.er=none:=by have:=U L;rw[gn,c4,LC,<-U b5]at this;exact this
   have gq:Hid (vP T t.ss l q):=by have br:=dq;rw[U b5]at br;have G:=(lA x.srcs br).ssr bx.tabs bx.names;rw[<-U b5]at G;exact G
   have gr:t.ss.length<=3:=by rw[<-gq.lt];exact hp
   rw[dq]at bz;have ds:Hid (∀ {gs:Int} {gt:List Nd},fF ce gs gt->yI lo z (.slice J T.length K) T ce m l q rs (.slice be m.length ac) (.slice ad l.length M) (.slice ae q.length V) (.slice b6 rs.length aj) c2 gs (cw T t.ss gt)):=fun c'=>DE lo z _ T eR ce m l q rs _ _ _ _ c2 t.ss gq gr c';clear gn dq L b5 gr;go_wp2_with fail;clear H aU r aV E W ak A bA bG;clear fc fe b' al fg bF hr fk
   go_loopg [9] m.length (fun f i c=> ∃j:Nat,j+f=m.length/\i=.int .i64 (j:Nat)/\(x.items.take j).foldl (fun a e=>bQ a (pG T e t.ss)) none=none/\Below o.heap.size o c)
   case atStart=>exact⟨0,by omega,rfl,rfl,y⟩
   case round=>
    clear y;obtain⟨j,hI,rfl,bl,n⟩:=hrel;have C:=(n.block _ (aa bg)).trans bg;have D:=(n.block _ (aa bk)).trans bk;have h:=(n.block _ (aa aT)).trans aT;obtain⟨H,aU⟩:=blk C;obtain⟨r,aV⟩:=blk D;obtain⟨E,W⟩:=blk h;have ak:=aa C;have A:=aa D;have bA:=aa h;obtain⟨al,y,L⟩:=aC (cu.keep n) n bl;clear bl n C D h;by_cases gw:j<m.length
    ·have bG:decide (j<m.length)=true:=by simp;omega
     obtain⟨an,rfl⟩: ∃an,gk=an+1:=⟨gk-1,by omega⟩
     obtain⟨bS,cR⟩: ∃bS,x.items[j]? =some bS:=⟨_,Jl (by rw[<-U e9];exact gw)⟩
     obtain⟨s,bn,ax⟩:=bx.items.at cR;obtain⟨gx,gy,gJ,gQ,-⟩:=ax (ho bS (JL cR));obtain⟨aL,jh,a5,jj,-,F⟩:=cK (f:=AV) (k:=7) (fun _=>rfl) al.it bn;injection a5 with a5 hJ hK;clear hJ;subst a5 hK;have hL:wr.cell? ⟨aL,j*7,none⟩=some (.int .i64 s.pl):=F 0 (by omega);have bJ:wr.cell? ⟨aL,j*7+1,none⟩=some (.string ⟨#[]⟩):=by rw[<-gx];exact F 1 (by omega)
     have a1:wr.cell? ⟨aL,j*7+2,none⟩=some (.int .i64 s.n):=F 2 (by omega);have hM:wr.cell? ⟨aL,j*7+3,none⟩=some (.slice none 0 0):=by rw[<-gy];exact F 3 (by omega)
     have hN:wr.cell? ⟨aL,j*7+4,none⟩=some (.slice none 0 0):=by rw[<-gJ];exact F 4 (by omega)
     have hO:wr.cell? ⟨aL,j*7+5,none⟩=some (.int .i64 s.rw):=F 5 (by omega);have hP:wr.cell? ⟨aL,j*7+6,none⟩=some (.string s.asx):=F 6 (by omega);have fr:(0:Int)<=(j:Int):=by omega
     have fs:(j:Int)<(m.length:Int):=by omega
     have a2:Hid (x.items.take (j+1)=x.items.take j++[bS]):=by unfold Hid;rw[K',cR];rfl
     have hQ:=ab (ds gQ);clear F bn ax cR gx gy gJ gQ
     obtain⟨ap,dw⟩: ∃ap,ap=pG T bS t.ss:=⟨_,rfl⟩
     obtain⟨O,bX,b0,aN⟩:=mB ap
     obtain⟨ar,cT⟩: ∃ar,ar=(wr.alloc (.cells #[.int .i64 s.pl,.string ⟨#[]⟩,.int .i64 s.n,.slice none 0 0,.slice none 0 0,.int .i64 s.rw,.string s.asx] 228)).alloc (.cells #[.int .i64 s.n] 3):=⟨_,rfl⟩
     have cj:Below wr.heap.size wr ar:=by rw[cT];exact((Jj _ _).alloc (Ji _) _).alloc (by simp) _
     have gW:ar.heap[wr.heap.size+1]? =some (.cells #[.int .i64 s.n] 3 (0,0)):=by rw[cT];exact af (by simp)
     have bs:Hid (Below o.heap.size o ar):=y.trans (cj.mono y.size);have hR:Hid (∀c,Below ar.heap.size ar c->Calls prog 205 #[.agg #[.pointer (some ⟨z,0,none⟩),.slice J T.length K],.agg #[.slice (some ⟨aL,0,none⟩) m.length ac,.slice ad l.length M,.slice ae q.length V,.slice b6 rs.length aj,.bool true],.int .i64 s.n] c fun e w'=>e=.returned (.agg #[.int .i64 O,.int .i64 bX])/\Below c.heap.size c w'):=fun c aA=>by have G:=(U hQ) c (cu.keep (bs.trans (aA.mono bs.size))) (cv.keep (bs.trans (aA.mono bs.size)));rw[show cw T t.ss bS.val=ap from dw.symm,b0]at G;exact G
     obtain⟨dT,g0,g1⟩:=aC b0 dw gW;go_wp2_with fail;rw[<-cT];obtain⟨g2,g3,g4⟩:=aC ((cj.block _ ak).trans ((y.block _ (aa bg)).trans bg)) ((cj.block _ A).trans ((y.block _ (aa bk)).trans bk)) ((cj.block _ bA).trans ((y.block _ (aa aT)).trans aT));clear cT cj gW b0 dw hL bJ a1 hM hN hO hP H aU r aV E W;generalize wr=d' at*
     go_loopg [12] 1 (fun f hS c=> ∃d:Nat,d+f=1/\hS=.int .i64 (d:Nat)/\(d=1->ap=none)/\Below ar.heap.size ar c)
     case atStart=>exact⟨0,by omega,rfl,(fun e=>by cases e),Jj _ _⟩
     case round=>
      obtain⟨d,ga,rfl,cl,bt⟩:=hrel;have C:=(bt.block _ (aa g2)).trans g2;have D:=(bt.block _ (aa g3)).trans g3;have h:=(bt.block _ (aa g4)).trans g4;have ea:=(bt.block _ (aa g1)).trans g1;have c8:=aa C;have bL:=aa D;have c9:=aa h;have hT:=aa ea;have b':=ab h;obtain⟨H,aU⟩:=blk C;obtain⟨r,aV⟩:=blk D;obtain⟨g6,hV⟩:=blk ea;have X:wr.cell? ⟨w.heap.size,0,none⟩=some (.pointer (some ⟨z,0,none⟩)):=H 0;have Y:wr.cell? ⟨w.heap.size,1,none⟩=some (.slice J T.length K):=H 1;have a':wr.cell? ⟨w.heap.size+1,0,none⟩=some (.slice (some ⟨aL,0,none⟩) m.length ac):=r 0;have N:wr.cell? ⟨w.heap.size+1,1,none⟩=some (.slice ad l.length M):=r 1;have Z:wr.cell? ⟨w.heap.size+1,2,none⟩=some (.slice ae q.length V):=r 2;have ba:wr.cell? ⟨w.heap.size+1,3,none⟩=some (.slice b6 rs.length aj):=r 3;have bb:wr.cell? ⟨w.heap.size+1,4,none⟩=some (.bool true):=r 4;have eb:wr.cell? ⟨d'.heap.size+1,0,none⟩=some (.int .i64 s.n):=g6 0;obtain⟨a3,hW⟩:=ag bt cl;clear H aU r aV g6 hV C D h ea cl;by_cases cN:d<1
      ·obtain rfl:d=0:=by omega
       obtain⟨bN,rfl⟩: ∃bN,gk=bN+1:=⟨gk-1,by omega⟩
       have g7:Hid (Below w.heap.size w wr):=b9.trans ((bs.trans (a3.mono bs.size)).mono b9.size);clear bt
       go_upto_region 23 with(fail)
       go_cut [13]from 103 to 109 (fun hX c=> ∃P,hX=.pointer (some ⟨P,0,none⟩)/\wr.heap.size<=P/\Below wr.heap.size wr c/\c.heap[P]? =some (.cells #[.int .i64 O,.int .i64 bX] 27 (0,0)))
       case first=>
        go_region_held3 (fun c=>c.cell? ⟨w.heap.size,0,none⟩=some (.pointer (some ⟨z,0,none⟩))/\c.cell? ⟨w.heap.size,1,none⟩=some (.slice J T.length K)/\c.cell? ⟨w.heap.size+1,0,none⟩=some (.slice (some ⟨aL,0,none⟩) m.length ac)/\c.cell? ⟨w.heap.size+1,1,none⟩=some (.slice ad l.length M)/\c.cell? ⟨w.heap.size+1,2,none⟩=some (.slice ae q.length V)/\c.cell? ⟨w.heap.size+1,3,none⟩=some (.slice b6 rs.length aj)/\c.cell? ⟨w.heap.size+1,4,none⟩=some (.bool true)/\c.cell? ⟨d'.heap.size+1,0,none⟩=some (.int .i64 s.n)) (first|go_keep|(refine⟨?_,?_,?_,?_,?_,?_,?_,?_⟩<;>(rw[dj _ _ _ _ (by omega),dj _ _ _ _ (by omega)];assumption))) (first
         |(go_at_call 205;refine(hR _ (Kn a3 (Below.mono (by repeat(first|exact Jj _ _|apply JI|refine JY ?_ (by first|exact Ji _|simp) _)) a3.size))).mono ?_;rintro e b1 ⟨rfl,aR⟩;have g:Below wr.heap.size wr b1:=Kn (by repeat(first|exact Jj _ _|apply JI|refine JY ?_ (by first|exact Ji _|simp) _)) (aR.mono (by first|exact Ji _|simp));have cz:=(g.cell (p:=⟨w.heap.size,0,none⟩) c8).trans X;have cF:=(g.cell (p:=⟨w.heap.size,1,none⟩) c8).trans Y;have cI:=(g.cell (p:=⟨w.heap.size+1,0,none⟩) bL).trans a';have cL:=(g.cell (p:=⟨w.heap.size+1,1,none⟩) bL).trans N;have g8:=(g.cell (p:=⟨w.heap.size+1,2,none⟩) bL).trans Z;have g9:=(g.cell (p:=⟨w.heap.size+1,3,none⟩) bL).trans ba;have g':=(g.cell (p:=⟨w.heap.size+1,4,none⟩) bL).trans bb;have ha:=(g.cell (p:=⟨d'.heap.size+1,0,none⟩) hT).trans eb;have au:=ab g;(try(have Q:b1.heap[wr.heap.size]? =some (.cells #[.int .i64 0,.int .i64 0] 27 (0,0)):=(aR.block wr.heap.size (by simp)).trans (af rfl);obtain⟨hb,hc⟩:=blk Q;have hd:=aa Q;have cp:=ab Q;clear Q));clear aR g))
        all_goals
         go_wp2_with fail;go_meet
         case rel=>
          first
           |exact⟨_,rfl,Ji _,(au.setCell (Ji _) _).setCell (Ji _) _,(am (am cp _) _).trans rfl⟩
           |exact⟨_,rfl,au.size,au.alloc au.size _,af rfl⟩
       case rest=>
        obtain⟨P,rfl,Q,g,ed⟩:=hcut;have h:=(g.block _ c9).trans b';obtain⟨ef,eg⟩:=blk ed;obtain⟨E,W⟩:=blk h;have jp:=aa ed;have jx:=aa h;have ei:Hid (Below w.heap.size w wc):=g7.trans (g.mono g7.size);have en:Hid (Below ar.heap.size ar wc):=a3.trans (g.mono a3.size);clear ed h g X Y a' N Z ba bb eb
        cases ap with
        |some b2=>
         have hY:(O !=0)=true:=aN
         have a4:Hid (R=some b2):=by
          have eo:x.items=x.items.take j++[bS]++x.items.drop (j+1):=by rw[<-U a2,KK]
          unfold Hid;rw[U bz,eo,LO,jD,L,<-U g0]
          show x.tests.foldl _ ((x.items.drop (j+1)).foldl _ (some b2))=_
          rw[gM,gM]
         clear aN;go_wp2;refine Jr (v:=.agg #[.int .i64 O,.int .i64 bX]) (by simp[results,results129,go_sem,E]) rfl ⟨by rw[U a4,U dT],?_⟩
         repeat(first|exact U ei|apply JI|refine J0 ?_ (by show w.heap.size<=w.heap.size+1+1;omega) _)
        |none=>
         have hY:(O !=0)=false:=aN;clear aN;go_wp2;go_roundg bN
         case measure=>simp
         case rel=>exact⟨1,by omega,by go_num,fun _=>by trivial,en⟩
      ·have he:d=1:=by omega
       have hZ:Hid (ap=none):=(U hW) he;have ci:Hid ((x.items.take (j+1)).foldl (fun a e=>bQ a (pG T e t.ss)) none=none):=by unfold Hid;rw[U a2,jD,L,<-U g0,U hZ];rfl
       have dp:Hid (Below o.heap.size o wr):=bs.trans (bt.mono bs.size);subst he;clear bt X Y a' N Z ba bb eb;go_wp2;go_roundg an
       case measure=>simp
       case rel=>exact⟨j+1,by omega,by go_num,ci,dp⟩
    ·have bG:decide (j<m.length)=false:=by simp;omega
     have hf:j=m.length:=by omega
     have hg:x.items.foldl (fun a e=>bQ a (pG T e t.ss)) none=none:=by have:=U L;rw[hf,e9,LC]at this;exact this
     rw[hg]at bz;clear hf hg L;go_wp2_with fail;clear H aU r aV E W ak A bA bG al hI gw
     go_loopg [14] rs.length (fun f i c=> ∃d:Nat,d+f=rs.length/\i=.int .i64 (d:Nat)/\(x.tests.take d).foldl (fun a u=>bQ a (gd T t.ss u)) none=none/\Below o.heap.size o c)
     case atStart=>exact⟨0,by omega,rfl,rfl,y⟩
     case round=>
      clear y;obtain⟨d,ga,rfl,bl,n⟩:=hrel;have C:=(n.block _ (aa bg)).trans bg;have D:=(n.block _ (aa bk)).trans bk;have h:=(n.block _ (aa aT)).trans aT;obtain⟨H,aU⟩:=blk C;obtain⟨r,aV⟩:=blk D;obtain⟨E,W⟩:=blk h;have ak:=aa C;have A:=aa D;have bA:=aa h;obtain⟨al,fc,fe,b',y,L⟩:=io (cu.keep n) C D h n bl;have bF:Hid (Below w.heap.size w wr):=b9.trans (n.mono b9.size);clear bl n C D h;by_cases cN:d<rs.length
      ·have bG:decide (d<rs.length)=true:=by simp;omega
       obtain⟨an,rfl⟩: ∃an,gk=an+1:=⟨gk-1,by omega⟩
       obtain⟨b3,ep⟩: ∃b3,x.tests[d]? =some b3:=⟨_,Jl (by rw[<-U e'];exact cN)⟩
       obtain⟨s,bn,ax⟩:=bx.tests.at ep;obtain⟨I,hB,ao,hh,-,F⟩:=cK (f:=DA) (k:=3) (fun _=>rfl) al.ts bn;injection ao with ao dd df;clear dd;subst ao df;have bJ:wr.cell? ⟨I,d*3+1,none⟩=some (.int .i64 s.A):=F 1 (by omega);have a1:wr.cell? ⟨I,d*3+2,none⟩=some (.int .i64 s.B):=F 2 (by omega);have fr:(0:Int)<=(d:Int):=by omega
       have fs:(d:Int)<(rs.length:Int):=by omega
       have a2:Hid (x.tests.take (d+1)=x.tests.take d++[b3]):=by unfold Hid;rw[K',ep];rfl
       obtain⟨cq,eq⟩: ∃ap,ap=cw T t.ss b3.l:=⟨_,rfl⟩
       obtain⟨cr,er⟩: ∃ap,ap=cw T t.ss b3.r:=⟨_,rfl⟩
       obtain⟨O,bX,b0,aN⟩:=mB cq;obtain⟨hi,eg,es,et⟩:=mB cr;have h0:Hid (∀c,Below wr.heap.size wr c->Calls prog 205 #[.agg #[.pointer (some ⟨z,0,none⟩),.slice J T.length K],.agg #[.slice be m.length ac,.slice ad l.length M,.slice ae q.length V,.slice (some ⟨I,0,none⟩) rs.length aj,.bool true],.int .i64 s.A] c fun e w'=>e=.returned (.agg #[.int .i64 O,.int .i64 bX])/\Below c.heap.size c w'):=fun c aA=>by have G:=(U ds) ax.2.1 c (al.keep aA) (cv.keep (y.trans (aA.mono y.size)));rw[<-eq,b0]at G;exact G
       have h1:Hid (∀c,Below wr.heap.size wr c->Calls prog 205 #[.agg #[.pointer (some ⟨z,0,none⟩),.slice J T.length K],.agg #[.slice be m.length ac,.slice ad l.length M,.slice ae q.length V,.slice (some ⟨I,0,none⟩) rs.length aj,.bool true],.int .i64 s.B] c fun e w'=>e=.returned (.agg #[.int .i64 hi,.int .i64 eg])/\Below c.heap.size c w'):=fun c aA=>by have G:=(U ds) ax.2.2 c (al.keep aA) (cv.keep (y.trans (aA.mono y.size)));rw[<-er,es]at G;exact G
       have hj:Hid (gd T t.ss b3=bQ cq cr):=by unfold Hid gd;rw[eq,er]
       obtain⟨dT,h2⟩:=ag b0 es;have X:wr.cell? ⟨w.heap.size,0,none⟩=some (.pointer (some ⟨z,0,none⟩)):=H 0;have Y:wr.cell? ⟨w.heap.size,1,none⟩=some (.slice J T.length K):=H 1;have a':wr.cell? ⟨w.heap.size+1,0,none⟩=some (.slice be m.length ac):=r 0;have N:wr.cell? ⟨w.heap.size+1,1,none⟩=some (.slice ad l.length M):=r 1;have Z:wr.cell? ⟨w.heap.size+1,2,none⟩=some (.slice ae q.length V):=r 2;have ba:wr.cell? ⟨w.heap.size+1,3,none⟩=some (.slice (some ⟨I,0,none⟩) rs.length aj):=r 3;have bb:wr.cell? ⟨w.heap.size+1,4,none⟩=some (.bool true):=r 4;clear F bn ax ep eq er b0 es H aU r aV
       go_upto_region 29 with(fail)
       go_cut [15]from 121 to 129 (fun h3 c=> ∃P,h3=.pointer (some ⟨P,0,none⟩)/\wr.heap.size<=P/\Below wr.heap.size wr c/\c.heap[P]? =some (.cells #[.int .i64 O,.int .i64 bX] 27 (0,0)))
       case first=>
        go_region_held3 (fun c=>c.cell? ⟨w.heap.size,0,none⟩=some (.pointer (some ⟨z,0,none⟩))/\c.cell? ⟨w.heap.size,1,none⟩=some (.slice J T.length K)/\c.cell? ⟨w.heap.size+1,0,none⟩=some (.slice be m.length ac)/\c.cell? ⟨w.heap.size+1,1,none⟩=some (.slice ad l.length M)/\c.cell? ⟨w.heap.size+1,2,none⟩=some (.slice ae q.length V)/\c.cell? ⟨w.heap.size+1,3,none⟩=some (.slice (some ⟨I,0,none⟩) rs.length aj)/\c.cell? ⟨w.heap.size+1,4,none⟩=some (.bool true)/\c.cell? ⟨I,d*3+1,none⟩=some (.int .i64 s.A)) (first|go_keep|(refine⟨?_,?_,?_,?_,?_,?_,?_,?_⟩<;>(rw[dj _ _ _ _ (by omega),dj _ _ _ _ (by omega)];assumption))) (first
         |(go_at_call 205;refine(h0 _ (by repeat(first|exact Jj _ _|apply JI|refine JY ?_ (by first|exact Ji _|simp) _))).mono ?_;rintro e b1 ⟨rfl,aR⟩;have g:Below wr.heap.size wr b1:=Kn (by repeat(first|exact Jj _ _|apply JI|refine JY ?_ (by first|exact Ji _|simp) _)) (aR.mono (by first|exact Ji _|simp));have cz:=(g.cell (p:=⟨w.heap.size,0,none⟩) ak).trans X;have cF:=(g.cell (p:=⟨w.heap.size,1,none⟩) ak).trans Y;have cI:=(g.cell (p:=⟨w.heap.size+1,0,none⟩) A).trans a';have cL:=(g.cell (p:=⟨w.heap.size+1,1,none⟩) A).trans N;have g8:=(g.cell (p:=⟨w.heap.size+1,2,none⟩) A).trans Z;have g9:=(g.cell (p:=⟨w.heap.size+1,3,none⟩) A).trans ba;have g':=(g.cell (p:=⟨w.heap.size+1,4,none⟩) A).trans bb;have ha:=(g.cell (p:=⟨I,d*3+1,none⟩) hh).trans bJ;have au:=ab g;(try(have Q:b1.heap[wr.heap.size]? =some (.cells #[.int .i64 0,.int .i64 0] 27 (0,0)):=(aR.block wr.heap.size (by simp)).trans (af rfl);obtain⟨hb,hc⟩:=blk Q;have hd:=aa Q;have cp:=ab Q;clear Q));clear aR g))
        all_goals
         go_wp2_with fail;go_meet
         case rel=>
          first
           |exact⟨_,rfl,Ji _,(au.setCell (Ji _) _).setCell (Ji _) _,(am (am cp _) _).trans rfl⟩
           |exact⟨_,rfl,au.size,au.alloc au.size _,af rfl⟩
       case rest=>
        obtain⟨P,rfl,Q,av,cV⟩:=hcut;replace X:=(av.cell (p:=⟨w.heap.size,0,none⟩) ak).trans X;replace Y:=(av.cell (p:=⟨w.heap.size,1,none⟩) ak).trans Y;replace a':=(av.cell (p:=⟨w.heap.size+1,0,none⟩) A).trans a';replace N:=(av.cell (p:=⟨w.heap.size+1,1,none⟩) A).trans N;replace Z:=(av.cell (p:=⟨w.heap.size+1,2,none⟩) A).trans Z;replace ba:=(av.cell (p:=⟨w.heap.size+1,3,none⟩) A).trans ba;replace bb:=(av.cell (p:=⟨w.heap.size+1,4,none⟩) A).trans bb;replace a1:=(av.cell (p:=⟨I,d*3+2,none⟩) hh).trans a1;have h4:=av.size;have ev:w.heap.size<wc.heap.size:=by omega
        have cb:w.heap.size+1<wc.heap.size:=by omega
        have hk:I<wc.heap.size:=by omega
        have hl:=aa cV;have jY:w.heap.size+1+1<P:=by omega
        have j0:I<P:=by omega
        obtain⟨ef,hm⟩:=blk cV;obtain⟨bu,cc,hn,bv⟩:=mB (bQ cq cr);obtain⟨cW,cd,ex⟩:=aC hn av cV;clear hn av cV bJ E W
        go_upto_if 132 with(fail)
        go_cut []from 132 to 141 (fun c=>Below wr.heap.size wr c/\c.heap[P]? =some (.cells #[.int .i64 bu,.int .i64 cc] 27 (0,0)))
        case first=>
         cases cq with
         |some b2=>
          have h5:(O==0)=false:=by have br:(O !=0)=true:=aN;simp at br⊢;exact br
          have cs:Hid (bu=O/\cc=bX):=by have bc:oI (some b2)=.agg #[.int .i64 bu,.int .i64 cc]:=U cW;rw[U dT]at bc;simp at bc;exact⟨bc.1.symm,bc.2.symm⟩
          clear aN bv et;go_wp2_with fail;go_meet
          case rel=>exact⟨U cd,by rw[cs.1,cs.2];exact ex⟩
         |none=>
          have h5:(O==0)=true:=by have br:(O !=0)=false:=aN;simp at br⊢;exact br
          have cs:Hid (bu=hi/\cc=eg):=by have bc:oI cr=.agg #[.int .i64 bu,.int .i64 cc]:=U cW;rw[U h2]at bc;simp at bc;exact⟨bc.1.symm,bc.2.symm⟩
          clear aN bv et
          go_upto_region 31 with(fail)
          go_region_held3 (fun c=>c.cell? ⟨w.heap.size,0,none⟩=some (.pointer (some ⟨z,0,none⟩))/\c.cell? ⟨w.heap.size,1,none⟩=some (.slice J T.length K)/\c.cell? ⟨w.heap.size+1,0,none⟩=some (.slice be m.length ac)/\c.cell? ⟨w.heap.size+1,1,none⟩=some (.slice ad l.length M)/\c.cell? ⟨w.heap.size+1,2,none⟩=some (.slice ae q.length V)/\c.cell? ⟨w.heap.size+1,3,none⟩=some (.slice (some ⟨I,0,none⟩) rs.length aj)/\c.cell? ⟨w.heap.size+1,4,none⟩=some (.bool true)/\c.cell? ⟨I,d*3+2,none⟩=some (.int .i64 s.B)) (first|go_keep|(refine⟨?_,?_,?_,?_,?_,?_,?_,?_⟩<;>(rw[dj _ _ _ _ (by omega),dj _ _ _ _ (by omega)];assumption))) (first
           |(go_at_call 205;refine(h1 _ (Kn cd (Below.mono (by repeat(first|exact Jj _ _|apply JI)) cd.size))).mono ?_;rintro e b1 ⟨rfl,aR⟩;have g:Below wc.heap.size wc b1:=Kn (by repeat(first|exact Jj _ _|apply JI)) aR;have cz:=(g.cell (p:=⟨w.heap.size,0,none⟩) ev).trans X;have cF:=(g.cell (p:=⟨w.heap.size,1,none⟩) ev).trans Y;have cI:=(g.cell (p:=⟨w.heap.size+1,0,none⟩) cb).trans a';have cL:=(g.cell (p:=⟨w.heap.size+1,1,none⟩) cb).trans N;have g8:=(g.cell (p:=⟨w.heap.size+1,2,none⟩) cb).trans Z;have g9:=(g.cell (p:=⟨w.heap.size+1,3,none⟩) cb).trans ba;have g':=(g.cell (p:=⟨w.heap.size+1,4,none⟩) cb).trans bb;have ha:=(g.cell (p:=⟨I,d*3+2,none⟩) hk).trans a1;have cZ:=(g.block P hl).trans ex;obtain⟨hb,hc⟩:=blk cZ;have hd:=aa cZ;have cp:=ab cZ;have au:=ab g;clear aR g cZ))
          all_goals
           go_wp2_with fail;go_meet
           case rel=>exact⟨((cd.trans (au.mono cd.size)).setCell Q _).setCell Q _,by rw[cs.1,cs.2];exact(am (am cp _) _).trans rfl⟩
        case rest=>
         obtain⟨c0,ez⟩:=hcut;have h:=(c0.block _ bA).trans b';clear ef hm;obtain⟨ef,hm⟩:=blk ez;obtain⟨E,W⟩:=blk h;have j1:=aa ez;have j2:=aa h;have ei:Hid (Below w.heap.size w wc):=bF.trans (c0.mono bF.size);have en:Hid (Below o.heap.size o wc):=y.trans (c0.mono y.size);clear X Y a' N Z ba bb a1 ev cb hk hl h4 c0 ez h ex cd aN et
         cases c1:bQ cq cr with
         |some b2=>
          rw[c1]at bv cW;have h6:(bu !=0)=true:=bv
          have a4:Hid (R=some b2):=by
           have eo:x.tests=x.tests.take d++[b3]++x.tests.drop (d+1):=by rw[<-U a2,KK]
           unfold Hid;rw[U bz,eo,LO,jD,L,hj,c1]
           show(x.tests.drop (d+1)).foldl _ (some b2)=_
           rw[gM]
          clear bv;go_wp2;refine Jr (v:=.agg #[.int .i64 bu,.int .i64 cc]) (by simp[results,results129,go_sem,E]) rfl ⟨by rw[U a4,U cW],?_⟩
          repeat(first|exact U ei|apply JI|refine J0 ?_ (by show w.heap.size<=w.heap.size+1+1;omega) _)
         |none=>
          rw[c1]at bv;have h6:(bu !=0)=false:=bv;have ci:Hid ((x.tests.take (d+1)).foldl (fun a u=>bQ a (gd T t.ss u)) none=none):=by unfold Hid;rw[U a2,jD,L,hj,c1];rfl
          clear bv;go_wp2;go_roundg an
          case measure=>simp
          case rel=>exact⟨d+1,by omega,by go_num,ci,en⟩
      ·have bG:decide (d<rs.length)=false:=by simp;omega
       have cl:d=rs.length:=by omega
       have a4:Hid (R=none):=by have:=U L;rw[cl,e',LC]at this;unfold Hid;rw[U bz,this]
       clear cl;go_wp2;refine Jr (v:=.agg #[.int .i64 0,.int .i64 0]) (by simp[results,results129,go_sem,E]) rfl ⟨by rw[U a4];rfl,?_⟩
       repeat(first|exact U bF|apply JI|refine J0 ?_ (by show w.heap.size<=w.heap.size+1+1;omega) _)
theorem DH(w:World)(lo b:Nat)(k:Value)(T:List Tb)(ax:T.length<=5)(I:List RE)(y:List RI)(z A:List RT)(rs:List RP)(J K L M Z:Value)(g:PQ w lo b I y z A rs J K L M Z)(N:bp w k T)(x:dP)(ac:qn I y z A rs x)(ad: ∀i∈x.items,i.win=none)(ay:x.srcs.length<=3)(aA:x.items.length<=6)(aI:x.tests.length<=1000)(l:Fs)(ae:l=aX T x.srcs)(R:Option (Nat×Nat))(aj:R=x.tests.foldl (fun a u=>bQ a (gd T l.ss u)) (x.items.foldl (fun a e=>bQ a (pG T e l.ss)) l.er)):
  Calls prog 86 #[.agg #[.pointer (some ⟨b,0,none⟩),k]] w fun e w'=>e=.returned (.tuple #[.agg #[.pointer (some ⟨b,0,none⟩),k],oI R])/\Below w.heap.size w w':=by
 have ak:Hid (∀c,Below w.heap.size w c->Calls prog 129 #[.agg #[.pointer (some ⟨b,0,none⟩),k],.agg #[J,K,L,M,.bool true],.bool true] c fun e w'=>e=.returned (oI R)/\Below c.heap.size c w'):=fun c al=>Fv c lo b k T ax I y z A rs J K L M Z (g.keep al) (N.keep al) x ac ad ay aA aI true l ae R aj;obtain⟨an,ao,ap,-⟩:=mB R;rw[ap]at ak⊢;obtain⟨m,n,rfl,-⟩:=id N;obtain⟨aJ,aL,rfl⟩:=a8 g.it;obtain⟨aN,aR,rfl⟩:=a8 g.tb;obtain⟨aT,aU,rfl⟩:=a8 g.nm;obtain⟨aV,a0,rfl⟩:=a8 g.ts;have a1:=g.name;have B:=g.c14;have C:=g.c15;have D:=g.c16;have E:=g.c17;have F:=g.c18;have o:=g.lt;have a2:b<w.heap.size+1:=by omega
 have a3:b<w.heap.size+1+1:=by omega
 have a4:b<w.heap.size+1+1+1:=by omega
 clear g N ac ae aj ad ap;go_enter func86,ntmps86;go_wp2_with fail
 obtain⟨d,j⟩: ∃d,d=(((w.alloc (.cells #[.pointer (some ⟨b,0,none⟩),.slice m T.length n] 222)).alloc (.cells #[.pointer none,.slice none 0 0] 222)).alloc (.cells #[.int .i64 0,.int .i64 0] 27)):=⟨_,rfl⟩
 rw[<-j];have hz:Below w.heap.size w d:=by rw[j];exact(((Jj _ _).alloc (Ji _) _).alloc (by simp) _).alloc (by simp;omega) _
 have q:d.heap[w.heap.size]? =some (.cells #[.pointer (some ⟨b,0,none⟩),.slice m T.length n] 222 (0,0)):=by rw[j];exact ai (ai (af rfl))
 have O:d.heap[w.heap.size+1]? =some (.cells #[.pointer none,.slice none 0 0] 222 (0,0)):=by rw[j];exact ai (af (by simp))
 have P:d.heap[w.heap.size+1+1]? =some (.cells #[.int .i64 0,.int .i64 0] 27 (0,0)):=by rw[j];exact af (by simp)
 replace B:=(hz.cell (p:=⟨b,14,none⟩) o).trans B;replace C:=(hz.cell (p:=⟨b,15,none⟩) o).trans C;replace D:=(hz.cell (p:=⟨b,16,none⟩) o).trans D;replace E:=(hz.cell (p:=⟨b,17,none⟩) o).trans E;replace F:=(hz.cell (p:=⟨b,18,none⟩) o).trans F;have ar:d.cell? ⟨w.heap.size,0,none⟩=some (.pointer (some ⟨b,0,none⟩)):=(blk q).1 0;have au:d.cell? ⟨w.heap.size,1,none⟩=some (.slice m T.length n):=(blk q).1 1;have Q:=aa q;have a5:=aa O;have a9:=aa P;have r:b<d.heap.size:=by omega
 obtain⟨G,a',ba,bb⟩:=aP hz q O P;clear j hz q O P a1 a2 a3 a4
 go_upto_region 2 with(fail)
 go_cut [4]from 17 to 23 (fun bc c=> ∃s,bc=.pointer (some ⟨s,0,none⟩)/\d.heap.size<=s/\Below d.heap.size d c/\c.heap[s]? =some (.cells #[.int .i64 an,.int .i64 ao] 27 (0,0)))
 case first=>
  go_region_held3 (fun c=>c.cell? ⟨w.heap.size,0,none⟩=some (.pointer (some ⟨b,0,none⟩))/\c.cell? ⟨w.heap.size,1,none⟩=some (.slice m T.length n)/\c.cell? ⟨b,14,none⟩=some (.slice aJ y.length aL)/\c.cell? ⟨b,15,none⟩=some (.slice aN z.length aR)/\c.cell? ⟨b,16,none⟩=some (.slice aT A.length aU)/\c.cell? ⟨b,17,none⟩=some (.slice aV rs.length a0)/\c.cell? ⟨b,18,none⟩=some (.bool true)) (first|go_keep|(refine⟨?_,?_,?_,?_,?_,?_,?_⟩<;>(rw[dj _ _ _ _ (by omega),dj _ _ _ _ (by omega)];assumption))) (first
   |(go_at_call 129;refine(ak _ (Kn G (Below.mono (by repeat(first|exact Jj _ _|apply JI|refine JY ?_ (by first|exact Ji _|simp) _)) G.size))).mono ?_;rintro e av ⟨rfl,S⟩;have f:Below d.heap.size d av:=Kn (by repeat(first|exact Jj _ _|apply JI|refine JY ?_ (by first|exact Ji _|simp) _)) (S.mono (by first|exact Ji _|simp));have bn:=(f.cell (p:=⟨w.heap.size,0,none⟩) Q).trans ar;have bq:=(f.cell (p:=⟨w.heap.size,1,none⟩) Q).trans au;have br:=(f.cell (p:=⟨b,14,none⟩) r).trans B;have bs:=(f.cell (p:=⟨b,15,none⟩) r).trans C;have bt:=(f.cell (p:=⟨b,16,none⟩) r).trans D;have bu:=(f.cell (p:=⟨b,17,none⟩) r).trans E;have bv:=(f.cell (p:=⟨b,18,none⟩) r).trans F;have H:=ab f;(try(have t:av.heap[d.heap.size]? =some (.cells #[.int .i64 0,.int .i64 0] 27 (0,0)):=(S.block d.heap.size (by simp)).trans (af rfl);obtain⟨bx,bz⟩:=blk t;have bA:=aa t;have be:=ab t;clear t));clear S f))
  all_goals
   go_wp2_with fail;go_meet
   case rel=>
    first
     |exact⟨_,rfl,Ji _,(H.setCell (Ji _) _).setCell (Ji _) _,(am (am be _) _).trans rfl⟩
     |exact⟨_,rfl,H.size,H.alloc H.size _,af rfl⟩
 case rest=>
  obtain⟨s,rfl,t,f,V⟩:=hcut;have W:=(f.block _ Q).trans a';have X:=(f.block _ a5).trans ba;have Y:=(f.block _ a9).trans bb;obtain⟨bF,bG⟩:=blk V;obtain⟨bJ,bL⟩:=blk W;obtain⟨bg,f1⟩:=blk X;obtain⟨bk,f2⟩:=blk Y;have bN:=aa V;have bS:=aa W;have bX:=aa X;have b0:=aa Y;have bl:Hid (Below w.heap.size w wc):=G.trans (f.mono G.size);clear V W X Y f B C D E F ar au;have b1:w.heap.size+1+1<s:=by omega
  go_wp2_with fail
  go_region
  all_goals
   go_wp2;refine Jr (v:=.tuple #[.agg #[.pointer (some ⟨b,0,none⟩),.slice m T.length n],.agg #[.int .i64 an,.int .i64 ao]]) (by simp[results,results86,go_sem,bg,bk]) rfl ⟨rfl,?_⟩
   repeat(first|exact U bl|apply JI|refine J0 ?_ (by first|(show w.heap.size<=w.heap.size+1;omega)|(show w.heap.size<=w.heap.size+1+1;omega)) _)
end
end Go.Proofs.YtfkeddkfegaeiaaGreatDoor
