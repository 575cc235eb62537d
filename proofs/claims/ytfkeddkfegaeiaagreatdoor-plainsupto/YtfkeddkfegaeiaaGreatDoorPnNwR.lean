import Derived.Test.YtfkeddkfegaeiaaGreatDoorPnNwQ
import Derived.Test.YtfkeddkfegaeiaaGreatDoorPnRjG
set_option maxRecDepth 100000
set_option maxHeartbeats 20000000
namespace Go.Proofs.YtfkeddkfegaeiaaGreatDoor
section
open Go.RowKit Tryz
theorem qz(p lo:Nat)(F:Fx)(c4 c5 c6 bz bA:Value)(ts cs rs bF:List Value)(l:List Tb)(w:World)(bG:bp w bA l)(bJ:vY l)(K:LTabs F l ts cs rs bF)(bL:fN lo p w c4 c5 c6 bz (l.length+8) l.length l.length (nrows l) (ts++kW 8) cs rs bF)(bN: ∀b o,F b=some o->w.heap[b]? =some o):
  Calls prog 48 #[.pointer (some ⟨p,0,none⟩),bA] w fun e w'=>e=.returned (.bool true)/\Below w.heap.size w w':=by
 obtain⟨L,fk,aN,j,aR⟩:=dD bJ bG K bL bN;clear bJ K bL bN;obtain⟨fl,fn,rfl,c7,fo,bS⟩:=bG;unfold maxLen at c7;have c8:=ab bS;clear bS;obtain⟨u,bX,rfl,_,ap⟩:=j.tab.form (by omega);have M:=aa j.box;go_enter func48,ntmps48;go_wp2_with fail
 go_loopg [5,6] l.length (fun hz aT c9 c=> ∃d v,l=d++v/\hz=v.length/\aT=.int .i64 (nrows d:Nat)/\c9=.int .i64 (d.length:Nat)/\Below w.heap.size w c)
 case atStart=>exact⟨[],l,rfl,rfl,rfl,rfl,Jj _ _⟩
 case round=>
  obtain⟨d,v,E,rfl,rfl,rfl,r⟩:=hrel;have b0:d.length+v.length=l.length:=by rw[E,Jk]
  obtain⟨N,m⟩:=ag E r;clear E r;have fp:=L.len
  cases v with
  |nil=>
   have K:decide (d.length<l.length)=false:=by simp at b0⊢;omega
   go_wp2_with fail;clear K
   go_loopg [14] 8 (fun hz O c=>hz<=8/\O=.int .i64 ((8-hz:Nat):Int)/\Below w.heap.size w c)
   case atStart=>exact⟨Ji _,rfl,m⟩
   case round=>
    clear m;obtain⟨c',rfl,r⟩:=hrel;have m:=ab r;clear r
    cases gk with
    |succ hz=>
     have H:8-(hz+1)<8:=by omega
     have P:8-(hz+1)+1=8-hz:=by omega
     generalize 8-(hz+1)=n at*;have aU:decide (n<8)=true:=by simpa using H
     have aV:=ab P;clear P;have ar:=aN.len;have fq:wr.cell? ⟨p,0,none⟩=some (.slice (some ⟨u,0,none⟩) (l.length+8) bX):=by rw[m.cell (p:=⟨p,0,none⟩) M,(blk j.box).1];rfl
     have dd:wr.cell? ⟨u,(l.length+n)*3,none⟩=some (.string ie):=by rw[m.cell (p:=⟨u,_,none⟩) ap,j.tab.cellAt _ (by omega),Jw (by omega),ar.1,show(l.length+n)*3-l.length*3=n*3 from by omega];exact Hb 8 n H
     have fr:l.length+n<l.length+8:=by omega
     clear ar;go_wp2;go_roundg hz
     case measure=>simp
     case rel=>refine⟨by omega,?_,m⟩;rw[<-U aV];go_num
    |zero=>
     have aU:decide (8-0<8)=false:=by decide
     go_wp2;go_ret;exact⟨rfl,m⟩
  |cons a v=>
   rw[Ju]at b0;have K:decide (d.length<l.length)=true:=by simp;omega
   have au:a∈l:=by rw[U N];simp
   have df:=L.cols a au;have fs:=L.rows a au;have dk:=ab (L.row a au);have dp:Hid (l=(d++[a])++v):=by unfold Hid;rw[U N];simp
   obtain⟨z,I,rfl,a0,a1⟩:=(U c8) (by omega)
   obtain⟨ft,fv,dq,a2,Q,R⟩:=a1 d.length a (by rw[U N];simp);obtain⟨fw,fx,S,b1,ds,b2⟩:=dq;injection S with _ S;injection S with dw S;injection S with dT _;subst dw dT;obtain⟨b3,b4⟩:=ag b1 b2;obtain⟨b5,b6,rfl,d',ea⟩:=b1;obtain⟨T,⟨eb,a3,rfl,ed,b7⟩,V,b9⟩:=b2;clear ea b7 b9 d' ed ds a1 au;rw[V]at b4 R;rw[Jm]at b3 Q;clear V T;obtain⟨a4,D,a5,b',fy,fz,fO,ca,cb,cc,cd,ce,cf,cg,ch⟩:=aN.at d v a N;obtain⟨a9,ef,eg⟩:=aC ca cb cc;clear ca cb cc;obtain⟨W,ci,rfl,_,ei⟩:=j.col.form (by omega);obtain⟨X,cj,rfl,_,en⟩:=j.row.form (by omega);have ar:=aN.len
   have x:Hid (∀c,Below w.heap.size w c->c.cell? ⟨p,0,none⟩=some (.slice (some ⟨u,0,none⟩) (l.length+8) bX)/\c.cell? ⟨p,1,none⟩=some (.slice (some ⟨W,0,none⟩) l.length ci)/\c.cell? ⟨p,2,none⟩=some (.slice (some ⟨X,0,none⟩) l.length cj)/\c.cell? ⟨p,3,none⟩=some bz/\c.cell? ⟨W,d.length,none⟩=some (.slice (some ⟨a4,0,none⟩) (a.cols.length+8) (a.cols.length+8))/\c.cell? ⟨X,d.length,none⟩=some (.slice (some ⟨D,0,none⟩) (a.rows.length+8) a5)/\c.cell? ⟨u,d.length*3,none⟩=some (.string a.name)/\c.cell? ⟨u,d.length*3+1,none⟩=some (.slice (some ⟨a4,0,none⟩) a.cols.length (a.cols.length+8))/\c.cell? ⟨u,d.length*3+2,none⟩=some (.slice (some ⟨D,0,none⟩) a.rows.length a5)/\c.cell? ⟨z,I+d.length*3,none⟩=some (.string a.name)/\c.cell? ⟨z,I+d.length*3+1,none⟩=some (.slice b5 a.cols.length b6)/\c.cell? ⟨z,I+d.length*3+2,none⟩=some (.slice eb a.rows.length a3)):=by
    intro c i;refine⟨?_,?_,?_,?_,?_,?_,?_,?_,?_,?_,?_,?_⟩
    ·rw[i.cell (p:=⟨p,0,none⟩) M,(blk j.box).1];rfl
    ·rw[i.cell (p:=⟨p,1,none⟩) M,(blk j.box).1];rfl
    ·rw[i.cell (p:=⟨p,2,none⟩) M,(blk j.box).1];rfl
    ·rw[i.cell (p:=⟨p,3,none⟩) M,(blk j.box).1];rfl
    ·rw[i.cell (p:=⟨W,_,none⟩) ei,j.col.cellAt _ (by omega),cg]
    ·rw[i.cell (p:=⟨X,_,none⟩) en,j.row.cellAt _ (by omega),ch]
    ·rw[i.cell (p:=⟨u,_,none⟩) ap,j.tab.cellAt _ (by omega),Jz (by omega),cd]
    ·rw[i.cell (p:=⟨u,_,none⟩) ap,j.tab.cellAt _ (by omega),Jz (by omega),ce]
    ·rw[i.cell (p:=⟨u,_,none⟩) ap,j.tab.cellAt _ (by omega),Jz (by omega),cf]
    ·rw[i.cell (p:=⟨z,_,none⟩) a0,a2]
    ·rw[i.cell (p:=⟨z,_,none⟩) a0,Q]
    ·rw[i.cell (p:=⟨z,_,none⟩) a0,R]
   clear a2 Q R cd ce cf cg ch ar;have av:Hid (∀c,Below w.heap.size w c-> ∀b o,F b=some o->c.heap[b]? =some o):=fun c i b o e=>by have:=(U aR) b o e;rw[i.block b (aa this)];exact this
   have A:=m.size
   go_upto_region 5 with(fail)
   go_cut [7] (fun G c=>G=.bool true/\Below w.heap.size w c)
   case first=>
    obtain⟨-,a1,-,-,dd,-,-,-,-,-,cl,-⟩:=(U x) _ m.drew;have cp:(0:Int)<=(d.length:Int):=by omega
    have cq:(d.length:Int)<(l.length:Int):=by omega
    go_region_held3 (fun w'=>w'.cell? ⟨p,1,none⟩=some (.slice (some ⟨W,0,none⟩) l.length ci)/\w'.cell? ⟨W,d.length,none⟩=some (.slice (some ⟨a4,0,none⟩) (a.cols.length+8) (a.cols.length+8))/\w'.cell? ⟨z,I+d.length*3+1,none⟩=some (.slice b5 a.cols.length b6)) (go_keep) (first
     |(go_at_call 71;refine(pC _ a.cols _ (by exact b3.keep m.drew) (by omega)).mono ?_;rintro e eo ⟨ep,rfl,eq,Y,Z⟩;have y:=ab (m.drew.trans (Z.mono (by exact A)));obtain⟨-,f',-,-,ga,-,-,-,-,-,gb,-⟩:=(U x) _ y;have a':=ab (jX Y (a.cols.length+8) (by simp) (by unfold maxLen;omega) (a.cols.length+8));clear Y Z)
     |(go_at_call 53;refine(lW _ _ (a.cols++List.replicate 8 ie) (a.cols++List.replicate 8 ie) _ (by exact Ca (av _ y) a9.cols df) (by have ac:=U a';rw[JJ (by simp)]at ac;exact ac)).mono ?_;rintro e ba ⟨rfl,s⟩;have q:=ab (y.trans (s.mono (by have:=y.size;omega)));rw[Ko rfl];obtain⟨-,a2,-,-,Q,-,-,-,-,-,gc,-⟩:=(U x) _ q;clear s))
    all_goals
     go_wp2_with fail;go_meet
     case rel=>exact⟨rfl,q⟩
   case rest=>
    obtain⟨rfl,ad⟩:=hcut;have t:=ab ad;clear ad m A;obtain⟨er,-,-,-,-,-,es,et,ev,ex,cl,ae⟩:=(U x) _ t
    go_upto_region 7 with(fail)
    go_cut [89] (fun G c=>G=.bool false/\Below w.heap.size w c)
    case first=>
     go_region
     all_goals
      go_wp2_with fail;go_meet
      case rel=>exact⟨rfl,t.drew⟩
    case rest=>
     clear er es et ev ex cl ae;obtain⟨rfl,aj⟩:=hcut;have ax:=ab aj;clear aj t;go_wp2_with fail;obtain⟨gf,cr,bb,ct,cu,cv⟩:=a9.els;have cz:=a9.rows;obtain⟨ez,eN,eR,cF,cI⟩:=dD bb ct cu cv cz;have eT:=bb.len;clear bb ct cu cv cz;have gg:nrows d+a.rows.length<=nrows l:=by rw[U N,gD];simp only[nrows];omega
     have gi:=L.nrows
     go_loopg [5,9] a.rows.length (fun hz aT O c=> ∃f B,a.rows=f++B/\hz=B.length/\aT=.int .i64 ((nrows d+f.length:Nat):Int)/\O=.int .i64 (f.length:Nat)/\Below w.heap.size w c)
     case atStart=>exact⟨[],a.rows,rfl,rfl,rfl,rfl,ax⟩
     case round=>
      clear ax;obtain⟨f,B,E,rfl,rfl,rfl,r⟩:=hrel;generalize cL:nrows d+f.length=C at*;have ay:=ab cL;clear cL;have aA:f.length+B.length=a.rows.length:=by rw[E,Jk]
      obtain⟨aI,k⟩:=ag E r;clear E r
      cases B with
      |cons g B=>
       rw[Ju]at aA;have cN:decide (f.length<a.rows.length)=true:=by simp;omega
       have H:C<nrows l:=by rw[<-U ay];omega
       have eX:Hid (a.rows=(f++[g])++B):=by unfold Hid;rw[U aI];simp
       have cR:=(U dk) g (by rw[U aI];simp);obtain⟨ak,cT,cV,cW⟩:=ez.at f.length g (by rw[U aI];simp);obtain⟨aJ,e0,rfl,_,e1⟩:=j.lst.form (by omega);obtain⟨T,⟨gl,gm,bc,e2,be⟩,V,cZ⟩:=U b4;injection bc with bc e3 e4;subst bc e4;rw[V]at be;obtain⟨J,al,rfl,e5,c0⟩:=be (by omega)
       obtain⟨bg,aL⟩: ∃bg,T[f.length]? =some bg:=⟨T[f.length]'(by omega),Jl _⟩
       have c1:=cZ f.length g bg (by rw[U aI];simp) aL;have bk:=ab c1;obtain⟨bl,bn,rfl,bq,e6⟩:=c1;rw[Jm]at aL bk
       have an:Hid (∀c,Below w.heap.size w c->c.cell? ⟨aJ,C,none⟩=some (.slice (some ⟨ak,0,none⟩) (g.length+8) (g.length+8))/\c.cell? ⟨D,f.length,none⟩=some (.slice (some ⟨ak,0,none⟩) g.length (g.length+8))/\c.cell? ⟨J,al+f.length,none⟩=some (.slice bl g.length bn)):=by
        intro c i;refine⟨?_,?_,?_⟩
        ·rw[i.cell (p:=⟨aJ,_,none⟩) e1,j.lst.cellAt _ (by omega),<-U ay,ef,<-U eg,Jw (by omega),Kk,Jz (by omega),cW]
        ·have ao:=(U aR) _ _ cI;rw[i.cell (p:=⟨D,_,none⟩) (aa ao),(blk ao).1];have e:(b'.toList.take (a.rows.length+8))[f.length]? =some (.slice (some ⟨ak,0,none⟩) g.length (g.length+8)):=by rw[U cF,Jz (by omega),cV]
         rw[Kl,Jo (by omega)]at e
         simpa using e
        ·rw[i.cell (p:=⟨J,_,none⟩) e5,c0 _ (by omega),aL]
       clear e2 e3 bq e6 aL cZ be c0 V cV cW;have c2:=ab cT;clear cT T;have A:=k.size;obtain⟨-,-,-,e7,-,-,-,-,-,-,-,ae⟩:=(U x) _ k;obtain⟨br,-,bs⟩:=(U an) _ k
       go_upto_region 12 with(fail)
       go_cut [10] (fun G c=>G=.bool true/\Below w.heap.size w c)
       case first=>
        have cp:(0:Int)<=(d.length:Int):=by omega
        have cq:(d.length:Int)<(l.length:Int):=by omega
        have e8:(0:Int)<=(f.length:Int):=by omega
        have e9:(f.length:Int)<(a.rows.length:Int):=by omega
        have e':(0:Int)<=(C:Int):=by omega
        have gn:(C:Int)<(nrows l:Int):=by omega
        go_region_held3 (fun w'=>w'.cell? ⟨p,3,none⟩=some (.slice (some ⟨aJ,0,none⟩) (nrows l) e0)/\w'.cell? ⟨aJ,C,none⟩=some (.slice (some ⟨ak,0,none⟩) (g.length+8) (g.length+8))/\w'.cell? ⟨z,I+d.length*3+2,none⟩=some (.slice (some ⟨J,al,none⟩) a.rows.length a3)/\w'.cell? ⟨J,al+f.length,none⟩=some (.slice bl g.length bn)) (go_keep) (first
         |(go_at_call 74;refine(pX _ g _ (by exact bk.keep k.drew) (by omega)).mono ?_;rintro e eo ⟨ep,rfl,eq,Y,Z⟩;have y:=ab (k.drew.trans (Z.mono (by exact A)));obtain⟨-,-,-,gq,-,-,-,-,-,-,-,gr⟩:=(U x) _ y;obtain⟨gs,-,gt⟩:=(U an) _ y;have a':=ab (jX Y (g.length+8) (by simp) (by unfold maxLen;omega) (g.length+8));clear Y Z)
         |(go_at_call 45;refine(kE _ _ (g++List.replicate 8 (-77)) (g++List.replicate 8 (-77)) _ (by exact D2 (av _ y) c2 cR) (by have ac:=U a';rw[JJ (by simp)]at ac;exact ac)).mono ?_;rintro e ba ⟨rfl,s⟩;have q:=ab (y.trans (s.mono (by have:=y.size;omega)));rw[Ko rfl];obtain⟨-,-,-,R,-,-,-,-,-,-,-,fa⟩:=(U x) _ q;obtain⟨b7,-,bq⟩:=(U an) _ q;clear s))
        all_goals
         go_wp2_with fail;go_meet
         case rel=>exact⟨rfl,q⟩
       case rest=>
        clear e7 ae br bs A;obtain⟨rfl,ad⟩:=hcut;have t:=ab ad;clear ad k;have A:=t.size;obtain⟨-,-,bt,-,-,bu,-,-,-,-,-,ae⟩:=(U x) _ t;obtain⟨-,fb,bs⟩:=(U an) _ t
        go_upto_region 13 with(fail)
        go_cut [11] (fun G c=>G=.bool true/\Below w.heap.size w c)
        case first=>
         have cp:(0:Int)<=(d.length:Int):=by omega
         have cq:(d.length:Int)<(l.length:Int):=by omega
         have e8:(0:Int)<=(f.length:Int):=by omega
         have e9:(f.length:Int)<(a.rows.length:Int):=by omega
         have e':(f.length:Int)<(a.rows.length:Int)+8:=by omega
         go_region_held3 (fun w'=>w'.cell? ⟨p,2,none⟩=some (.slice (some ⟨X,0,none⟩) l.length cj)/\w'.cell? ⟨X,d.length,none⟩=some (.slice (some ⟨D,0,none⟩) (a.rows.length+8) a5)/\w'.cell? ⟨D,f.length,none⟩=some (.slice (some ⟨ak,0,none⟩) g.length (g.length+8))/\w'.cell? ⟨z,I+d.length*3+2,none⟩=some (.slice (some ⟨J,al,none⟩) a.rows.length a3)/\w'.cell? ⟨J,al+f.length,none⟩=some (.slice bl g.length bn)) (go_keep) ((go_at_call 45;refine(kE _ _ g g _ (by exact vZ (av _ t.drew) c2 cR) (by exact bk.keep t.drew)).mono ?_;rintro e ba ⟨rfl,s⟩;have q:=ab (t.drew.trans (s.mono (by exact A)));rw[Ko rfl];obtain⟨-,-,Q,-,-,R,-,-,-,-,-,fa⟩:=(U x) _ q;obtain⟨-,b9,bq⟩:=(U an) _ q;clear s))
         all_goals
          go_wp2_with fail;go_meet
          case rel=>exact⟨rfl,q⟩
        case rest=>
         clear bt bu ae fb bs A;obtain⟨rfl,aj⟩:=hcut;have ax:=ab aj;clear aj t;go_wp2;go_roundg B.length
         case measure=>simp
         case rel=>
          refine⟨f++[g],B,eX,rfl,?_,?_,ax⟩
          ·rw[Jk,<-MA,U ay];go_num
          ·rw[Jk];go_num
      |nil=>
       have cN:decide (f.length<a.rows.length)=false:=by simp at aA⊢;omega
       have fc:Hid (f.length=a.rows.length):=by unfold Hid;simp at aA;omega
       clear aA;go_wp2_with fail;clear cN
       go_loopg [12] 8 (fun hz O c=>hz<=8/\O=.int .i64 ((8-hz:Nat):Int)/\Below w.heap.size w c)
       case atStart=>exact⟨Ji _,rfl,k⟩
       case round=>
        clear k;obtain⟨c',rfl,r⟩:=hrel;have k:=ab r;clear r
        cases gk with
        |succ hz=>
         have H:8-(hz+1)<8:=by omega
         have P:8-(hz+1)+1=8-hz:=by omega
         generalize 8-(hz+1)=n at*;have aU:decide (n<8)=true:=by simpa using H
         have aV:=ab P;clear P
         obtain⟨bv,bx⟩: ∃bv,cr[n]? =some bv:=⟨cr[n]'(by rw[U eN];exact H),Jl _⟩
         obtain⟨C,rfl,c3⟩:=FP (av _ k) (eR bv (JL bx))
         have br:wr.cell? ⟨D,a.rows.length+n,none⟩=some (.slice (some ⟨C,0,none⟩) 1 1):=by
          have ao:=(U aR) _ _ cI;rw[k.cell (p:=⟨D,_,none⟩) (aa ao),(blk ao).1];have e:(b'.toList.take (a.rows.length+8))[a.rows.length+n]? =some (.slice (some ⟨C,0,none⟩) 1 1):=by rw[U cF,Jw (by omega),eT.1,Kk,bx]
          rw[Kl,Jo (by omega)]at e
          simpa using e
         have fe:=ab c3;clear c3 bx;have A:=k.size;obtain⟨-,-,bt,-,-,bu,-⟩:=(U x) _ k;go_wp2_with fail;refine(kE _ _ [-77] [-77] _ (by exact fe.keep ((Jj _ _).alloc (Ji _) _)) (by exact jX (xs:=[.int .i64 (-77)]) (af rfl) 1 (by simp) (by unfold maxLen;omega) 1)).mono ?_;rintro e ba ⟨rfl,s⟩;have q:=ab ((k.alloc (by omega) _).trans (s.mono (by simp;omega)));rw[Ko rfl];clear s bt bu br;go_wp2;go_roundg hz
         case measure=>simp
         case rel=>refine⟨by omega,?_,q⟩;rw[<-U aV];go_num
        |zero=>
         have aU:decide (8-0<8)=false:=by decide
         have e:nrows (d++[a])=C:=by rw[gD,<-U ay,U fc];simp[nrows]
         have fg:=ab e;clear e;go_wp2;go_roundg v.length
         case measure=>simp
         case rel=>
          refine⟨d++[a],v,dp,rfl,?_,?_,k⟩
          ·rw[U fg]
          ·rw[Jk];go_num
structure qV(w w':World)(qv:Value)(l:List Tb)(q m g gy:Nat)(F:Fx)(D:List Value):Prop where
 tabs:yf F g l D
 fits: ∀b o,F b=some o->w.heap.size<=b/\b<m/\w'.heap[b]? =some o
 lmq:m<q
 lqy:q<gy
 lm:w.heap.size<=m
 lq:w.heap.size<=q
 ly:w.heap.size<=gy
 map:w'.heap[m]? =some (.map #[] 0)
 qbl:w'.heap[q]? =some (.cells #[.slice (some ⟨g,0,none⟩) l.length l.length,.int .i32 0,.int .u32 0,.map (some m),.int .i64 0] 140 (0,0))
 ybl:w'.heap[gy]? =some (.cells #[qv,.slice none 0 0] 159 (0,0))
 below:Below w.heap.size w w'
theorem D3(a:Nat->Addr)(b:Nat)(l:List Tb)(w:World)(c:cJ a b w)(d:bT l≠0):
  Calls prog 15 #[gT (fun j=>a (nd j)) (bT l)] w fun e w'=>e=.returned (.agg #[.int .i64 (bT l),.int .i64 (-1)])/\Below w.heap.size w w':=by
 rcases Al l with h0|h0|h0|h0|h0
 ·exact absurd h0 d
 all_goals rw[h0]
 ·exact kR a b w c bE (by unfold lc;simp)
 ·exact kR a b w c cB (by unfold lc;simp)
 ·exact kR a b w c iJ (by unfold lc;simp)
 ·exact kR a b w c sU (by unfold lc;simp)
theorem D4(a:Nat->Addr)(A:Nat)(V:Value)(l:List Tb)(w:World)(W:cJ a A w)(X:bp w V l)(Y:vY l)(B:bT l≠0):
  Calls prog 24 #[V] w fun e w'=>e=.returned (.tuple #[.agg #[.pointer none,.pointer none],.bool true])/\Below w.heap.size w w':=by
 obtain⟨n,C,d⟩:=aC W X Y;clear W Y;obtain⟨ba,bb,rfl,aN,bc,aR⟩:=X;clear aR;unfold maxLen at aN;have Z:Hid (Below w.heap.size w (w.alloc (.cells #[.pointer none,.pointer none] 57))):=(Jj _ _).alloc (Ji _) _;go_enter func24,ntmps24;go_wp2_with fail;refine(yY _ l _ (by exact C.keep Z) d).mono ?_;rintro e b ⟨o,p,be,D,E,F,ac,G,H,I,rfl,aT,ad,hz,ae,J⟩;have q:Hid (Below w.heap.size w b):=Z.trans (J.mono (by simp));have aj:Hid (b.heap[w.heap.size]? =some (.cells #[.pointer none,.pointer none] 57 (0,0))):=by unfold Hid;rw[J.block _ (by simp)];exact af rfl
 obtain⟨K,r⟩:=ag ad ae;obtain⟨ak,L,rfl,_,_⟩:=hz.tab.form (by omega);have i:=ab hz;clear ad ae hz J;have al:Hid (∀c f,p c=some f->b.heap[c]? =some f):=fun c f e=>(r.fits c f e).2;have an:=ab (we al K i d);have bg:l.length<=L:=by obtain⟨_,_,e,_,M,_⟩:=U an;injection e with _ _ e;omega
 simp only[Mk]at aT;have aU:b.cell? ⟨o,0,none⟩=some (.slice (some ⟨ak,0,none⟩) (l.length+8) L):=by rw[(blk i.box).1];rfl
 have bk:=aa i.box;go_wp2_with fail;refine(E8 (fun j=>a (nd j)) _ l _ (by exact(n.keep (q.mono n.env.size)).sents) (by exact an) B).mono ?_;rintro e aV ⟨rfl,N⟩;have O:Hid (Below w.heap.size w aV):=q.trans (N.mono q.size);have ao:=ab N;clear N aU;go_wp2_with fail;refine(xO _ l _ (by exact C.keep O)).mono ?_;rintro e k ⟨a0,rfl,a1,_,P⟩;have ap:Hid (Below w.heap.size w k):=O.trans (P.mono O.size);have ar:Hid (Below b.heap.size b k):=ao.trans (P.mono ao.size);rw[show nK l a0=.tuple #[.pointer none,.agg #[.int .i64 (bT l),.int .i64 (-1)]]from by unfold nK;rw[Jn B]];have a2:Hid (∀w':World,cJ a A w'->_):=fun w' a3=>D3 a A l w' a3 B;generalize bT l=g at*;generalize gT (fun j=>a (nd j)) g=bl at*;clear P a1;have bn:=q.size;have au:=ar.size;obtain⟨av,Q⟩:=ag (ap.alloc ap.size (.cells #[.int .i64 g,.int .i64 (-1)] 27)) (ar.alloc au (.cells #[.int .i64 g,.int .i64 (-1)] 27));go_wp2_with fail;refine(qz o _ p _ D E F _ ac G H I l _ (by exact C.keep (U av)) d K (by exact i.below (U Q)) (by intro c f e;have M:=(U al) c f e;rw[(U Q).block c (aa M)];exact M)).mono ?_;rintro e m ⟨rfl,s⟩;have a4:Hid (Below w.heap.size w m):=(U av).trans (s.mono (by simp;omega));have t:Hid (Below b.heap.size b m):=(U Q).trans (s.mono (by simp;omega));have ax:Hid (m.heap[k.heap.size]? =some (.cells #[.int .i64 g,.int .i64 (-1)] 27 (0,0))):=by unfold Hid;rw[s.block _ (by simp)];exact af rfl
 clear s;have bq:=t.size;have u:=K.rooms d.cols d.rows d.row;have br:=d.len;have bs:=d.nrows;have a5:Hid (SI (w.heap.size+1) b.heap.size o m m (.slice (some ⟨ak,0,none⟩) (l.length+8) L) D E F (l.length+8) l.length l.length (nrows l) G H I p (ac++kW 8)):=by have hz:=i.below t;have ay:=r.below t;simp only[Mk]at hz ay;exact⟨hz,ay,u.1,u.2.1,u.2.2,fun c f e=>r.ltF e,fun c e=>(r.off _ (by simp) c e).2.2.2,Sp.refl _ _ _⟩
 clear u;go_wp2_with fail;refine(wg (w.heap.size+1) b.heap.size o _ l.length (nrows l) _ _ D E F G H I p _ (by exact a5) (by omega) (by omega) (by omega) (by omega)).mono ?_;rintro e R ⟨rfl,x⟩;have S:Hid (Below w.heap.size w R):=a4.trans ((x.below (by omega)).mono (by omega));have aA:Hid (R.heap[k.heap.size]? =some (.cells #[.int .i64 g,.int .i64 (-1)] 27 (0,0))):=by unfold Hid;rw[x.block _ (Or.inr au) (aa (U ax))];exact ax
 have aI:Hid (R.heap[w.heap.size]? =some (.cells #[.pointer none,.pointer none] 57 (0,0))):=by unfold Hid;have a9:=aa aj;rw[x.block _ (Or.inl (by omega)) (by omega),t.block _ a9];exact aj
 clear x;go_wp2_with fail;refine(a2 _ (by exact n.keep (S.mono n.env.size))).mono ?_;rintro e y ⟨rfl,z⟩;have aJ:Hid (Below w.heap.size w y):=S.trans (z.mono S.size);have aL:Hid (y.heap[k.heap.size]? =some (.cells #[.int .i64 g,.int .i64 (-1)] 27 (0,0))):=by unfold Hid;rw[z.block _ (aa (U aA))];exact aA
 have T:Hid (y.heap[w.heap.size]? =some (.cells #[.pointer none,.pointer none] 57 (0,0))):=by unfold Hid;rw[z.block _ (aa (U aI))];exact aI
 clear z;obtain⟨bt,bu⟩:=blk aL;obtain⟨bv,bx⟩:=blk T;have bz:=aa aL;have bA:=aa T;go_wp2_with fail;have a':Hid ((((y.setCell ⟨w.heap.size,0,none⟩ (.pointer none)).setCell ⟨w.heap.size,1,none⟩ (.pointer none)).alloc (.cells #[.int .i64 g,.int .i64 (-1)] 27)).heap[w.heap.size]? =some (.cells #[(.pointer none),(.pointer none)] 57 (0,0))):=ai (am (am T _) _);have j:=(blk a').1;refine Jr (v:=.tuple #[.agg #[(.pointer none),(.pointer none)],.bool true]) (by simp[results,results24,go_sem,j]) rfl ⟨rfl,?_⟩;exact((aJ.setCell (Ji _) _).setCell (Ji _) _).alloc (by have:=aJ.size;simpa using this) _
theorem Cb(a:Nat->Addr)(bg:Nat)(G:Value)(l:List Tb)(w:World)(aj:cJ a bg w)(ak:bp w G l)(al:vY l)(H:bT l=0):
  Calls prog 24 #[G] w fun e w'=> ∃i m g hz F I,e=.returned (.tuple #[.agg #[.pointer (some ⟨i,0,none⟩),.pointer (some ⟨hz,0,none⟩)],.bool true])/\qV w w' G l i m g hz F I:=by
 obtain⟨an,J,j⟩:=aC aj ak al;clear aj al;obtain⟨bX,b0,rfl,bk,b1,bl⟩:=ak;clear bl;unfold maxLen at bk;have ao:Hid (Below w.heap.size w (w.alloc (.cells #[.pointer none,.pointer none] 57))):=(Jj _ _).alloc (Ji _) _;go_enter func24,ntmps24;go_wp2_with fail;refine(yY _ l _ (by exact J.keep ao) j).mono ?_;rintro e f ⟨y,F,b2,K,L,M,ap,N,O,P,rfl,bn,ar,o,au,Q⟩;have z:Hid (Below w.heap.size w f):=ao.trans (Q.mono (by simp));have R:Hid (f.heap[w.heap.size]? =some (.cells #[.pointer none,.pointer none] 57 (0,0))):=by unfold Hid;rw[Q.block _ (by simp)];exact af rfl
 obtain⟨S,A⟩:=ag ar au;obtain⟨av,T,rfl,_,_⟩:=o.tab.form (by omega);have q:=ab o;clear ar au o Q;have ax:Hid (∀b c,F b=some c->f.heap[b]? =some c):=fun b c e=>(A.fits b c e).2;have ay:=ab (we ax S q j);have b3:l.length<=T:=by obtain⟨_,_,e,_,d,_⟩:=U ay;injection e with _ _ e;omega
 simp only[Mk]at bn;have bq:f.cell? ⟨y,0,none⟩=some (.slice (some ⟨av,0,none⟩) (l.length+8) T):=by rw[(blk q.box).1];rfl
 have b4:=aa q.box;go_wp2_with fail;refine(DQ (fun V=>a (nd V)) _ l _ (by exact(an.keep (z.mono an.env.size)).sents) (by exact ay) H).mono ?_;rintro e aA ⟨i,br,bs,bt,I,rfl,aI,aJ,aL,bu,aN,aR,W⟩;obtain⟨bv,r,bx,aT⟩:=aP aI aJ aN aR;clear aI aJ aN aR;have X:Hid (Below w.heap.size w aA):=z.trans (W.mono z.size);have Y:=ab W;clear W bq;go_wp2_with fail;refine(xO _ l _ (by exact J.keep X)).mono ?_;rintro e k ⟨hz,rfl,bz,aU,B⟩;have bA:=ab (aU H);have b5:=bz;have Z:Hid (∀b c,f.heap.size<=b->aA.heap[b]? =some c->k.heap[b]? =some c):=fun b c _ d=>(B.block b (fP d)).trans d;clear aU;have aV:Hid (Below w.heap.size w k):=X.trans (B.mono X.size);have a0:Hid (Below f.heap.size f k):=Y.trans (B.mono Y.size);rw[show nK l hz=.tuple #[.pointer (some ⟨hz,0,none⟩),.agg #[.int .i64 0,.int .i64 0]]from by unfold nK;rw[Jo H]];clear B;have b6:=z.size;have a1:=a0.size;obtain⟨a2,ac⟩:=ag (aV.alloc aV.size (.cells #[.int .i64 0,.int .i64 0] 27)) (a0.alloc a1 (.cells #[.int .i64 0,.int .i64 0] 27));go_wp2_with fail;refine(qz y _ F _ K L M _ ap N O P l _ (by exact J.keep (U a2)) j S (by exact q.below (U ac)) (by intro b c e;have d:=(U ax) b c e;rw[(U ac).block b (aa d)];exact d)).mono ?_;rintro e n ⟨rfl,s⟩;have bF:Hid (∀b c,k.heap[b]? =some c->n.heap[b]? =some c):=fun b c d=>(s.block b (by have:=fP d;simp;omega)).trans (ai d);have bG:Hid (Below w.heap.size w n):=(U a2).trans (s.mono (by simp;omega));have C:Hid (Below f.heap.size f n):=(U ac).trans (s.mono (by simp;omega));have a3:Hid (n.heap[k.heap.size]? =some (.cells #[.int .i64 0,.int .i64 0] 27 (0,0))):=by unfold Hid;rw[s.block _ (by simp)];exact af rfl
 clear s;have b7:=C.size;have D:=S.rooms j.cols j.rows j.row;have b9:=j.len;have b':=j.nrows;have bJ:Hid (SI (w.heap.size+1) f.heap.size y n n (.slice (some ⟨av,0,none⟩) (l.length+8) T) K L M (l.length+8) l.length l.length (nrows l) N O P F (ap++kW 8)):=by have o:=q.below C;have a4:=A.below C;simp only[Mk]at o a4;exact⟨o,a4,D.1,D.2.1,D.2.2,fun b c e=>A.ltF e,fun b e=>(A.off _ (by simp) b e).2.2.2,Sp.refl _ _ _⟩
 clear D;go_wp2_with fail;refine(wg (w.heap.size+1) f.heap.size y _ l.length (nrows l) _ _ K L M N O P F _ (by exact bJ) (by omega) (by omega) (by omega) (by omega)).mono ?_;rintro e t ⟨rfl,u⟩;have bL:Hid (∀b c,f.heap.size<=b->n.heap[b]? =some c->t.heap[b]? =some c):=fun b c ad d=>(u.block b (Or.inr ad) (fP d)).trans d;have a5:Hid (Below w.heap.size w t):=bG.trans ((u.below (by omega)).mono (by omega));have a9:Hid (t.heap[k.heap.size]? =some (.cells #[.int .i64 0,.int .i64 0] 27 (0,0))):=by unfold Hid;rw[u.block _ (Or.inr a1) (aa (U a3))];exact a3
 have a':Hid (t.heap[w.heap.size]? =some (.cells #[.pointer none,.pointer none] 57 (0,0))):=by unfold Hid;have ba:=aa R;rw[u.block _ (Or.inl (by omega)) (by omega),C.block _ ba];exact R
 clear u;go_wp2_with fail;refine(vO _).mono ?_;rintro e p ⟨rfl,x⟩;have bN:Hid (∀b c,t.heap[b]? =some c->p.heap[b]? =some c):=fun b c d=>(x.block b (fP d)).trans d;have bb:Hid (Below w.heap.size w p):=a5.trans (x.mono a5.size);have bc:Hid (p.heap[k.heap.size]? =some (.cells #[.int .i64 0,.int .i64 0] 27 (0,0))):=by unfold Hid;rw[x.block _ (aa (U a9))];exact a9
 have ae:Hid (p.heap[w.heap.size]? =some (.cells #[.pointer none,.pointer none] 57 (0,0))):=by unfold Hid;rw[x.block _ (aa (U a'))];exact a'
 clear x;obtain⟨ca,cb⟩:=blk bc;obtain⟨cc,cd⟩:=blk ae;have ce:=aa bc;have cf:=aa ae;go_wp2_with fail;have bS:Hid ((((p.setCell ⟨w.heap.size,0,none⟩ (.pointer (some ⟨i,0,none⟩))).setCell ⟨w.heap.size,1,none⟩ (.pointer (some ⟨hz,0,none⟩))).alloc (.cells #[.int .i64 0,.int .i64 0] 27)).heap[w.heap.size]? =some (.cells #[.pointer (some ⟨i,0,none⟩),.pointer (some ⟨hz,0,none⟩)] 57 (0,0))):=ai (am (am ae _) _);have V:=(blk bS).1;have be: ∀b c,f.heap.size<=b->k.heap[b]? =some c->(((p.setCell ⟨w.heap.size,0,none⟩ (.pointer (some ⟨i,0,none⟩))).setCell ⟨w.heap.size,1,none⟩ (.pointer (some ⟨hz,0,none⟩))).alloc (.cells #[.int .i64 0,.int .i64 0] 27)).heap[b]? =some c:=fun b c ad d=>by refine ai ?_;have ba:=aa R;rw[Jp _ _ _ _ (by show b≠w.heap.size;omega),Jp _ _ _ _ (by show b≠w.heap.size;omega)];exact bN b c (bL b c ad (bF b c d))
 have cg:=Y.size;have E:=ab be;clear be;refine Jr (v:=.tuple #[.agg #[.pointer (some ⟨i,0,none⟩),.pointer (some ⟨hz,0,none⟩)],.bool true]) (by simp[results,results24,go_sem,V]) rfl ⟨i,br,bs,hz,bt,I,rfl,bv,fun b c e=>⟨by have:=(r b c e).1;omega,(r b c e).2.1,(U E) b c (r b c e).1 (Z b c (r b c e).1 (r b c e).2.2)⟩,bu,by have:=aa aT;omega,by omega,by omega,by omega,(U E) _ _ aL (Z _ _ aL bx),(U E) _ _ (by omega) (Z _ _ (by omega) aT),(U E) _ _ (by omega) bA,?_⟩;exact((bb.setCell (Ji _) _).setCell (Ji _) _).alloc (by have:=bb.size;simpa using this) _
end
section
open Go.RowKit Go.Maps Tryz
def Q3(a b c k:Nat):Prop:=k=a∨k=b∨k=c
structure PI(a:Nat->Addr)(w0 W:World)(qb mb yb kb:Nat)(tq:Value)(y:Int)(lv:Value)(i:Nat)(tb:Nat)(tv:Value)(ks ts:List ByteArray)(S:Nat->Prop)(vI vT vR:Value)(es txs rs:List (Value×Nat)):Prop where
 qs:Qs a W qb mb tq y ks (ts.length:Nat)
 yq:Yq W yb tb w0.heap.size lv tv ts
 bk:Bk W kb w0.heap.size S vI vT vR es txs rs
 rel: ∀s,s∈ts↔s∈ks/\ ∃X,cP s=.ok X
 kl:ks.length<=i
 tl:ts.length<=i
 el:es.length<=16000*i
 xl:txs.length<=4*i
 rl:rs.length<=4*i
 nt: ¬S tb
 th:tb=yb∨w0.heap.size<=tb
 tn:tv.ownBlock=some tb∨tb=yb
 turn:bw (Q3 qb mb yb) w0 W
theorem aF.turn{p c:Nat}{S:Nat->Prop}{w w':World}(a:aF p c w w')(e:S p)(f:S c):bw S w w':=⟨a.os,a.tape,a.output,a.size,fun g h d=>a.block g h (fun b=>d (by rw[b];exact e)) (fun b=>d (by rw[b];exact f))⟩
theorem Yq.turn{W W':World}{d f lo:Nat}{h i:Value}{ts:List ByteArray}{T:Nat->Prop}(a:Yq W d f lo h i ts)(g:bw T W W')(j: ¬T d)(k: ¬T f):Yq W' d f lo h i ts:=
 ⟨(g.block d (aa a.blk) j).trans a.blk,cE a.txt g (fun b c=>by rcases a.ne with e|e;rw[e]at c;injection c with c;rw[<-c];exact k;rw[e]at c;cases c),a.ne,Js a.lt g.size⟩
theorem aw.turn{w w':World}{T:Nat->Prop}(c:bw T w w')(d: ∀k cs t,T k->w.heap[k]? =some (.cells cs t (0,0))->kT t=false):aw kT 0 w w':=fun k cs t _ a b=>c.block k (aa a) (fun e=>by rw[d k cs t e a]at b;cases b)
theorem Qs.turn{a:Nat->Addr}{W W':World}{b c:Nat}{f:Value}{g m:Int}{h:List ByteArray}{T:Nat->Prop}(d:Qs a W b c f g h m)(e:bw T W W')(i: ¬T b)(j: ¬T c)(l: ∀k cs t,T k->W.heap[k]? =some (.cells cs t (0,0))->kT t=false):Qs a W' b c f g h m:=d.keep (aw.turn e l) (e.block _ d.lt.1 i) (e.block _ d.lt.2 j)
theorem Hc{i ts k:List ByteArray}{s:ByteArray}{m l:Int}(e: ∀s,s∈ts↔s∈i/\ ∃X,cP s=.ok X)(d:oJ i s k m l)(j:m=(ts.length:Nat)):(∀t,t∈gI ts s↔t∈k/\ ∃X,cP t=.ok X)/\l=((gI ts s).length:Nat)/\(gI ts s).length<=ts.length+1:=by
 have n:Lib.idxOfS ts s<0↔s∉ts:=by
  have:=Lib.idxOfS_nonneg_iff ts s
  constructor
  ·intro a f;have:=this.2 f;omega
  ·intro a;rcases Int.lt_or_le (Lib.idxOfS ts s) 0 with f|f
   ·exact f
   ·exact absurd (this.1 f) a
 by_cases b:s.size<=1000/\ ∃X,cP s=.ok X
 ·have c:gI ts s=jF ts s:=by unfold gI;rw[Jo b]
  rw[c];unfold jF;by_cases g:s∈ts
  ·rw[Jn (fun a=>(n.1 a) g)];have h:=((e s).1 g).1;refine⟨fun t=>?_,?_,by omega⟩
   ·rw[e t,d.mem t];exact⟨fun a=>⟨Or.inl a.1,a.2⟩,fun a=>⟨a.1.elim id (fun c=>by rw[c.1];exact h),a.2⟩⟩
   ·rw[d.old (Or.inl h),j]
  ·rw[Jo (n.2 g)];have h:s∉i:=fun a=>g ((e s).2 ⟨a,b.2⟩);refine⟨fun t=>?_,?_,by rw[Jk];exact Ji _⟩
   ·rw[JW,e t,d.mem t,JN]
    constructor
    ·rintro(a|rfl)
     ·exact⟨Or.inl a.1,a.2⟩
     ·exact⟨Or.inr ⟨rfl,b.1⟩,b.2⟩
    ·rintro⟨a|a,o⟩
     ·exact Or.inl ⟨a,o⟩
     ·exact Or.inr a.1
   ·rw[d.new h b.1 b.2,j,Jk];simp
 ·have c:gI ts s=ts:=by unfold gI;rw[Jn b]
  rw[c];refine⟨fun t=>?_,?_,by omega⟩
  ·rw[e t,d.mem t];refine⟨fun a=>⟨Or.inl a.1,a.2⟩,fun a=>⟨a.1.elim id (fun c=>?_),a.2⟩⟩;obtain⟨p,q⟩:=c;rw[p]at a;exact absurd ⟨q,a.2⟩ b
  ·rw[d.old (Or.inr b),j]
end
section
open Go.RowKit Tryz
theorem D6(a:Nat->Addr)(f:Nat)(b o:Value)(l:List Tb)(w:World)(c:cJ a f w)(d:bp w b l)(g:vY l)(hz:bT l≠0):
  Calls prog 20 #[b,o,.slice none 0 0] w fun e w'=>e=.returned (.bool true)/\Below w.heap.size w w':=by
 have i:=ab (fun(j:World) (k:Below w.heap.size w j)=>D4 a f b l j (c.keep (k.mono c.env.size)) (d.keep k) g hz);obtain⟨p,q,rfl,-⟩:=id d;clear c d g hz;go_enter func20,ntmps20;go_wp2_with fail;refine(i _ (by repeat(first|exact Jj _ _|refine JY ?_ (by first|exact Ji _|simp) _))).mono ?_;rintro e r ⟨rfl,m⟩;have n:=ab m;clear m i;go_wp2;go_ret;exact⟨rfl,n.alloc n.size _⟩
end
section
open Go.RowKit Go.Maps Tryz
theorem qV.below3{w e W:World}{k:Value}{l:List Tb}{f m g h:Nat}{F:Fx}{n:List Value}(b:qV w e k l f m g h F n)(o:Obj)(c:bw (Q3 f m h) (e.alloc o) W):Below w.heap.size w W:=by have a:=b.below.alloc b.below.size o;refine⟨c.os.trans a.os,c.tape.trans a.tape,c.output.trans a.output,Jt a.size c.size,fun i j=>(c.block i (Js j a.size) (fun d=>?_)).trans (a.block i j)⟩;have:=b.lm;have:=b.lq;have:=b.ly;rcases d with d|d|d<;>omega
theorem qV.tabs3{w c W:World}{j:Value}{l:List Tb}{e m g f:Nat}{F:Fx}{k:List Value}(b:qV w c j l e m g f F k)(o:Obj)(n:bw (Q3 e m f) (c.alloc o) W)(p:l.length<=maxLen):bp W (.slice (some ⟨g,0,none⟩) l.length l.length) l:=by refine b.tabs.tabsAt (fun d h a=>?_) p;obtain⟨-,r,q⟩:=b.fits d h a;have i:(c.alloc o).heap[d]? =some h:=ai q;refine(n.block d (fP i) (fun a=>?_)).trans i;have:=b.lmq;have:=b.lqy;rcases a with a|a|a<;>omega
theorem PI.init{a:Nat->Addr}{w c:World}{j:Value}{l:List Tb}{n m g f:Nat}{F:Fx}{r:List Value}(b:qV w c j l n m g f F r)(o:Obj):PI a (c.alloc o) ((c.alloc o).alloc (.cells #[.slice none 0 0,.slice none 0 0,.slice none 0 0,.slice none 0 0] 66)) n m f (c.heap.size+1) (.slice (some ⟨g,0,none⟩) l.length l.length) 0 j 0 f (.slice none 0 0) [] [] (fun k=>k=c.heap.size+1) (.slice none 0 0) (.slice none 0 0) (.slice none 0 0) [] [] []:=by
 have u:=aa b.qbl;have v:=aa b.ybl;have i:((c.alloc o).alloc (.cells #[.slice none 0 0,.slice none 0 0,.slice none 0 0,.slice none 0 0] 66)).heap[c.heap.size+1]? =some (.cells #[.slice none 0 0,.slice none 0 0,.slice none 0 0,.slice none 0 0] 66 (0,0)):=af (by simp);refine⟨⟨ai (ai b.qbl),⟨.map [],DR (ai (ai b.map)),fun p s=>(by cases s),fun p _=>⟨rfl,fun x=>rfl⟩⟩,by have:=b.lmq;omega⟩,⟨ai (ai b.ybl),JF _ _ _ _,Or.inr rfl,by simp;omega⟩,⟨i,JF _ _ _ _,JF _ _ _ _,JF _ _ _ _,fun h d=>(by cases d),fun h d=>(by cases d),fun h d=>(by cases d),⟨rfl,fun q e=>(by cases e),fun q e=>(by cases e),fun q e=>(by cases e)⟩,fun k t=>?_⟩,fun p=>⟨fun b=>(by cases b),fun b=>(by cases b.1)⟩,Ji _,Ji _,Ji _,Ji _,Ji _,fun h=>?_,Or.inl rfl,Or.inr rfl,bw.below ((Jj _ _).alloc (Ji _) _)⟩
 ·rw[show k=c.heap.size+1 from t];exact⟨by simp,aa i,_,_,i,by decide⟩
 ·have:f=c.heap.size+1:=h;omega
theorem PI.ask{a:Nat->Addr}{c W g:World}{d e f l:Nat}{w:Value}{x:Int}{m:Value}{i n:Nat}{o:Value}{y ts:List ByteArray}{S:Nat->Prop}{p q r:Value}{s t rs:List (Value×Nat)}(h:PI a c W d e f l w x m i n o y ts S p q r s t rs)(z:aF d e W g)(j:f≠d/\f≠e)(B:d<c.heap.size/\e<c.heap.size/\f<c.heap.size):
  Yq g f n c.heap.size m o ts/\Bk g l c.heap.size S p q r s t rs/\bw (Q3 d e f) c g:=by
 have k:bw (fun u=>u=d∨u=e) W g:=z.turn (Or.inl rfl) (Or.inr rfl);refine⟨h.yq.turn k (fun b=>b.elim j.1 j.2) (fun b=>?_),h.bk.turn k (fun v A b=>?_),h.turn.trans k (fun v _ b=>b.elim Or.inl (fun b=>Or.inr (Or.inl b)))⟩
 ·rcases h.th with h1|h1
  ·rw[h1]at b;exact b.elim j.1 j.2
  ·omega
 ·have:=(h.bk.st v A).1;omega
theorem PI.fin{a:Nat->Addr}{h W m n x:World}{j l e y:Nat}{z:Value}{A:Int}{B:Value}{i f:Nat}{M:Value}{N ts:List ByteArray}{S:Nat->Prop}{ar au av:Value}{O P rs:List (Value×Nat)}(d:PI a h W j l e y z A B i f M N ts S ar au av O P rs)(Q:aF j l W m)(q:e≠j/\e≠l)(r:j<h.heap.size/\l<h.heap.size/\e<h.heap.size)
  {s:ByteArray} {C:List ByteArray} {R:Int} (ax:Qs a m j l z A C R) (c:oJ N s C (ts.length:Nat) R) (T:aF e f m n) {g:Nat} {u:Value} (V:Yq n e g h.heap.size B u (gI ts s)) (X:g=f∨m.heap.size<=g) (ay:u.ownBlock=some g∨(g=f/\u=M))
  {o p:Value} {us:List Value} (v: ∀k,jO o p us k->W.heap.size<=k/\k<m.heap.size/\ ∃cs t,n.heap[k]? =some (.cells cs t (0,0))/\kT t=false) {S':Nat->Prop} {Y Z ac:Value} {D E F:List (Value×Nat)} (aA:Bk x y h.heap.size S' Y Z ac D E F) (aI: ∀k,S' k->S k∨jO o p us k∨n.heap.size<=k) (G:bw (fun k=>S k∨jO o p us k) n x) (a3:us.length<=4000) (a4:D.length=O.length+4*us.length) (a5:E.length=P.length+4) (a9:F.length=rs.length+4):
  PI a h x j l e y z A B (i+1) g u C (gI ts s) S' Y Z ac D E F:=by
 obtain⟨ad,aJ,aL⟩:=d.ask Q q r;obtain⟨aN,aR,a'⟩:=Hc d.rel c rfl;have ba:=d.turn.size;have bb:=Q.size;have bc:=T.size;have be:=d.yq.lt;have H:bw (fun k=>k=e∨k=f) m n:=T.turn (Or.inl rfl) (Or.inr rfl)
 have ae:f≠j/\f≠l:=by
  rcases d.th with h1|h1
  ·rw[h1];exact q
  ·exact⟨by omega,by omega⟩
 have aT: ∀k cs t,(k=e∨k=f)->m.heap[k]? =some (.cells cs t (0,0))->kT t=false:=fun k cs t b c=>by
  by_cases I:k=e
  ·rw[I,ad.blk]at c;injection c with c;injection c with _ c _;rw[<-c];decide
  ·have aj:k=f:=b.elim (fun b=>absurd b I) id;rcases d.tn with h1|h1
   ·obtain⟨ak,aU⟩:=aO ad.txt h1;rw[aj,aU]at c;injection c with c;injection c with _ c _;rw[<-c];decide
   ·exact absurd (aj.trans h1) I
 have aV:=ax.turn H (fun b=>b.elim (fun b=>q.1 b.symm) (fun b=>ae.1 b.symm)) (fun b=>b.elim (fun b=>q.2 b.symm) (fun b=>ae.2 b.symm)) aT
 have w: ∀k,k<h.heap.size-> ¬(S k∨jO o p us k):=fun k c b=>by
  rcases b with b|b
  ·have:=(d.bk.st k b).1;omega
  ·have:=(v k b).1;omega
 have a0: ∀k,S k-> ¬(k=e∨k=f):=fun k al b=>by
  rcases b with b|b
  ·have:=(d.bk.st k al).1;omega
  ·exact d.nt (by rw[<-b];exact al)
 have a1:=aJ.turn H a0
 have J: ¬(S g∨jO o p us g):=fun b=>by
  rcases X with h1|h1
  ·rw[h1]at b;rcases b with b|b
   ·exact d.nt b
   ·have:=(v f b).1;omega
  ·rcases b with b|b
   ·have:=(d.bk.st g b).2.1;omega
   ·have:=(v g b).2.1;omega
 have an:=aV.turn G (w j r.1) (w l r.2.1) (fun k cs t b c=>by
  rcases b with b|b
  ·obtain⟨-,-,ak,a2,K,L⟩:=a1.st k b;rw[K]at c;injection c with c;injection c with _ c _;rw[<-c];exact L
  ·obtain⟨-,-,ak,a2,K,L⟩:=v k b;rw[K]at c;injection c with c;injection c with _ c _
   rw[<-c];exact L)
 rw[aR]at an;refine⟨an,V.turn G (w e r.2.2) J,aA,aN,?_,?_,?_,?_,?_,fun b=>?_,?_,?_,?_⟩
 ·have:=c.len;have:=d.kl;omega
 ·have:=d.tl;omega
 ·have:=d.el;omega
 ·have:=d.xl;omega
 ·have:=d.rl;omega
 ·rcases aI g b with g1|g1|g1
  ·exact J (Or.inl g1)
  ·exact J (Or.inr g1)
  ·have:=V.lt;omega
 ·rcases X with h1|h1
  ·rw[h1];exact d.th
  ·exact Or.inr (by omega)
 ·rcases ay with h1|⟨h1,h2⟩
  ·exact Or.inl h1
  ·rw[h1,h2];exact d.tn
 ·refine(aL.trans H (fun ao ap b=>?_)).trans G (fun ao ap b=>absurd b (w ao ap));rcases b with b|b
  ·exact Or.inr (Or.inr b)
  ·rcases d.th with h1|h1
   ·exact Or.inr (Or.inr (by rw[b];exact h1))
   ·omega
theorem nU{W:World}{lo a t k n:Nat}{v:Value}{xs:List Value}(b:W.ownsRow lo t k v n xs)(c:a<=lo):W.ownsRow a t k v n xs:=⟨b.1,b.2.imp id (fun⟨d,e,f,g,h,i⟩=>⟨d,e,f,g,Jt c h,i⟩)⟩
theorem fK.low{W:World}{lo b:Nat}{v:Value}{us:List Value}{c:List (List Int)}(a:fK W lo v us c)(d:b<=lo):fK W b v us c:=⟨nU a.own d,a.len,fun e f g h i=>⟨nU (a.at' e f g h i).1 d,(a.at' e f g h i).2⟩,a.one⟩
theorem Xa.box{a:Nat->Addr}{l W c g:World}{n p:Int}{m:List ByteArray}{rows:List (List Int)}{o q r:Value}(d:Xa a W c n p m rows o q r)(s:l.heap.size<=W.heap.size){bx:Nat}(u:aF bx bx c g)(h: ∀cs t,c.heap[bx]? =some (.cells cs t (0,0))->t=68):Xa a l g n p m rows o q r:=by
 have v:bw (fun i=>i=bx) c g:=u.turn rfl rfl;have y:aw kT 0 c g:=aw.off2 u (fun cs t b=>by rw[h cs t b];exact iM) (fun cs t b=>by rw[h cs t b];exact iM);have w: ∀ {z t i n:Nat} {x:Value} {A:List Value},c.ownsRow z t i x n A->t≠68-> ∀e,x.ownBlock=some e-> ¬e=bx:=fun B C e j b=>by obtain⟨cs,f⟩:=aO B j;rw[b]at f;exact C (h cs _ f)
 refine⟨fun b=>?_,d.ok,nU (cE d.own v (w d.own (by decide))) s,?_⟩
 ·obtain⟨D,E,F,G,H,I⟩:=d.err b;exact⟨D,E,F,G,H,fun J K L M=>I J K L (y.trans M)⟩
 ·obtain⟨N,k⟩:=d.rws;refine⟨N,(k.turn v (w k.own (by decide)) (fun O P e j b=>?_)).low s⟩;obtain⟨cs,f⟩:=k.typ O P e j;rw[b]at f;exact absurd (h cs _ f) (by decide)
theorem Xa.blocks{a:Nat->Addr}{W d:World}{n p:Int}{o:List ByteArray}{rows:List (List Int)}{h f q:Value}(i:Xa a W d n p o rows h f q){us:List Value}(e:fK d W.heap.size f us rows): ∀k,jO h f us k->W.heap.size<=k/\k<d.heap.size/\ ∃cs t,d.heap[k]? =some (.cells cs t (0,0))/\kT t=false:=fun k b=>by
 rcases b with b|b|⟨u,hm,b⟩
 ·obtain⟨cs,c⟩:=aO i.own b;exact⟨(i.own.lt k b).1,aa c,cs,_,c,by decide⟩
 ·obtain⟨cs,c⟩:=aO e.own b;exact⟨(e.own.lt k b).1,aa c,cs,_,c,by decide⟩
 ·obtain⟨j,l⟩:=LB.1 hm
  obtain⟨g,r⟩: ∃g,rows[j]? =some g:=⟨_,Jl (by rw[<-e.len];exact(Jy.1 l).1)⟩
  have m:=(e.at' j u g l r).1;obtain⟨cs,c⟩:=aO m b;exact⟨(m.lt k b).1,aa c,cs,_,c,by decide⟩
theorem PI.below{a:Nat->Addr}{d W W':World}{e f g h:Nat}{j:Value}{k:Int}{l:Value}{i m:Nat}{n:Value}{o ts:List ByteArray}{S:Nat->Prop}{p q r:Value}{s t rs:List (Value×Nat)}(b:PI a d W e f g h j k l i m n o ts S p q r s t rs)(c:Below W.heap.size W W'):PI a d W' e f g h j k l i m n o ts S p q r s t rs:=
 ⟨b.qs.below c,b.yq.below c,b.bk.below c,b.rel,b.kl,b.tl,b.el,b.xl,b.rl,b.nt,b.th,b.tn,b.turn.trans (bw.below (S:=fun _=>False) c) (fun _ _ u=>u.elim)⟩
theorem Hd{t:Tb}{pre:List Tb}(a:p6 t pre=0):t.cols.length<=6/\t.rows.length<=200/\ ∀r∈t.rows,r.length=t.cols.length:=by
 unfold p6 at a;split at a
 ·cases a
 ·split at a
  ·cases a
  ·rename_i c
   split at a
   ·cases a
   ·split at a
    ·cases a
    ·rename_i b
     simp only[J8,JQ,not_or]at c;refine⟨by omega,by omega,fun r d=>?_⟩;simp only[Mj,JQ,not_exists,not_and,Decidable.not_not]at b;exact b r d
theorem rI: ∀(l pre:List Tb),dR pre l=0-> ∀t∈l,t.cols.length<=6/\t.rows.length<=200/\ ∀r∈t.rows,r.length=t.cols.length
 | [],_,_,t,a=>by cases a
 |u::l,pre,b,t,a=>by
  rw[dR]at b;split at b
  ·rename_i c
   rcases JG.1 a with rfl|a
   ·exact Hd c
   ·exact rI l _ b t a
  ·rename_i c
   exact absurd b c
theorem Cc{l:List Tb}(a:bT l=0):l.length<=4/\ ∀t∈l,t.cols.length<=6/\t.rows.length<=200/\ ∀r∈t.rows,r.length=t.cols.length:=by
 unfold bT at a;split at a
 ·cases a
 ·exact⟨by omega,rI l [] a⟩
end
end Go.Proofs.YtfkeddkfegaeiaaGreatDoor
