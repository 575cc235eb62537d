import Derived.Test.YtfkeddkfegaeiaaGreatDoorPnNwA
set_option maxRecDepth 100000
set_option maxHeartbeats 20000000
namespace Go.Proofs.YtfkeddkfegaeiaaGreatDoor
section
open Go.RowKit Tryz
theorem tf{pre:List Tb}{s:ByteArray}(a:pre.all (fun t=> !(t.name.toList==s.toList))=true): ∀suf:List Tb,dz (pre++suf) s=(dz suf s).map (· +pre.length):=by
 intro suf;unfold dz;rw[List.findIdx?_append]
 have b:pre.findIdx? (fun t=>t.name.toList==s.toList)=none:=by
  rw[List.findIdx?_eq_none_iff];intro c d;have:=LS.1 a c d
  simpa using this
 rw[b];rfl
theorem ow(b o cap:Nat)(T:List Tb)(s:ByteArray)(w:World)(t:bp w (.slice (some ⟨b,o,none⟩) T.length cap) T):
  Calls prog 242 #[.slice (some ⟨b,o,none⟩) T.length cap,.string s] w fun e w'=>e=.returned (.pointer ((dz T s).map fun j=>⟨b,o+j*3,none⟩))/\w'=w:=by
 obtain⟨I,J,u,v,K,m⟩:=t;injection u with d h x;subst d x;unfold maxLen at v;have y:=ab m;clear m h;go_enter func242,ntmps242;go_wp2_with fail
 go_loopg [5,8] T.length (fun z _ A B=> ∃a c,T=a++c/\z=c.length/\A=.int .i64 (a.length:Nat)/\a.all (fun f=> !(f.name.toList==s.toList))=true/\B=w)
 case atStart=>exact⟨[],T,rfl,rfl,rfl,rfl,rfl⟩
 case round=>
  obtain⟨a,c,i,rfl,rfl,n,C⟩:=hrel;obtain rfl:=C.symm;have p:a.length+c.length=T.length:=by rw[i,Jk]
  obtain⟨g,k⟩:=ag i n;clear i n
  cases c with
  |nil=>
   have D:decide (a.length<T.length)=false:=by simp at p⊢;omega
   go_wp2;go_ret;refine⟨?_,rfl⟩;have e:dz T s=none:=by rw[U g,tf (U k)];rfl
   rw[e];rfl
  |cons f c=>
   rw[Ju]at p;have D:decide (a.length<T.length)=true:=by simp;omega
   obtain⟨L,M,d,N,q⟩:=(U y) (by omega)
   injection d with d;injection d with d h;subst d h;obtain⟨O,P,E,Q,F,G⟩:=q a.length f (by rw[U g];simp);have H:Hid (T=(a++[f])++c):=by unfold Hid;rw[U g];simp
   clear q E F G
   cases r:(f.name.toList==s.toList)with
   |true=>
    have l:=ab r;go_wp2;go_ret;refine⟨?_,rfl⟩;have e:dz T s=some a.length:=by rw[U g,tf (U k)];unfold dz;rw[L9,U l];simp
    rw[e];rfl
   |false=>
    have l:=ab r;go_wp2;go_roundg c.length
    case measure=>simp
    case rel=>
     refine⟨a++[f],c,H,rfl,?_,?_,rfl⟩
     ·rw[Jk];go_num
     ·rw[Ld,k,LI,U l];rfl
theorem bi{W:World}{a n:Nat}{e:TypeId}{size:Nat}{v:Value}{xs:List Value}(b:W.ownsRow a e size v n xs): ∃c cap,v=.slice c n cap:=by
 rcases b.2 with⟨h1,h2⟩|⟨g,cap,cur,hv,_⟩
 ·exact⟨none,0,by rw[h1,h2]⟩
 ·exact⟨_,cap,hv⟩
theorem ry{pre:List Sr}{s:ByteArray}(a:pre.all (fun t=> !(t.alias.toList==s.toList))=true): ∀suf:List Sr,ck (pre++suf) s=ck suf s:=by
 intro suf;unfold ck;rw[List.find?_append]
 have b:pre.find? (fun t=>t.alias.toList==s.toList)=none:=by
  rw[List.find?_eq_none];intro c d;have:=LS.1 a c d
  simpa using this
 rw[b];rfl
theorem FS.srcAt{c:Fc}{F:Fx}{W:World}{e f h i:Value}{j:Nat}{b:List Sr}{er:Option (Nat×Nat)}(k:FS c F W e f h i j b er){pre suf:List Sr}{s:Sr}(a:b=pre++s::suf): ∃g cap,e=.slice (some ⟨g,0,none⟩) b.length cap/\g<W.heap.size/\W.cell? ⟨g,pre.length*3,none⟩=some (.string s.alias)/\W.cell? ⟨g,pre.length*3+1,none⟩=some (.pointer (some ⟨c.tb,c.tof+s.tab*3,none⟩))/\W.cell? ⟨g,pre.length*3+2,none⟩=some (.int .i64 s.first):=by
 have l:0<b.length:=by rw[a,Jk,Ju];omega
 have d:=k.srcs;obtain⟨g,cap,rfl,_,m⟩:=d.form l;refine⟨g,cap,rfl,m,?_,?_,?_⟩
 ·rw[d.cellAt _ (by rw[a,Jk,Ju];omega),a];exact(td c pre suf s).1
 ·rw[d.cellAt _ (by rw[a,Jk,Ju];omega),a];exact(td c pre suf s).2.1
 ·rw[d.cellAt _ (by rw[a,Jk,Ju];omega),a];exact(td c pre suf s).2.2
def o9(c:Fc)(w:World)(g:Value)(e:List Sr)(s:ByteArray)(f:Option Addr):Prop:=match ck e s with
 |none=>f=none
 |some b=>b∈e/\ ∃a d,f=some ⟨a,d,none⟩/\a<w.heap.size/\w.cell? ⟨a,d+1,none⟩=some (.pointer (some ⟨c.tb,c.tof+b.tab*3,none⟩))/\w.cell? ⟨a,d+2,none⟩=some (.int .i64 b.first)/\g.ownBlock=some a
theorem o9.no{c:Fc}{w:World}{e:Value}{b:List Sr}{s:ByteArray}{d:Option Addr}(a:o9 c w e b s d)(f:ck b s=none):d=none:=by unfold o9 at a;rw[f]at a;exact a
theorem o9.yes{c:Fc}{w:World}{d:Value}{a:List Sr}{s:ByteArray}{e:Option Addr}(b:o9 c w d a s e){x:Sr}(f:ck a s=some x):x∈a/\ ∃g k,e=some ⟨g,k,none⟩/\g<w.heap.size/\w.cell? ⟨g,k+1,none⟩=some (.pointer (some ⟨c.tb,c.tof+x.tab*3,none⟩))/\w.cell? ⟨g,k+2,none⟩=some (.int .i64 x.first)/\d.ownBlock=some g:=by unfold o9 at b;rw[f]at b;exact b
theorem mY(c:Fc)(F:Fx)(w:World)(m u v x:Value)(y:Nat)(a:List Sr)(er:Option (Nat×Nat))(g:FS c F w m u v x y a er)(s:ByteArray):
  Calls prog 245 #[.pointer (some ⟨c.fb,0,none⟩),.string s] w fun e w'=>(∃n,e=.returned (.pointer n)/\o9 c w m a s n)/\w'=w:=by
 obtain⟨N,O,P⟩:=g.facts;have Q:=g.few;have z:=ab g;obtain⟨R,S,A⟩:=bi g.srcs;subst A;clear g;go_enter func245,ntmps245;go_wp2_with fail
 go_loopg [5,12] a.length (fun B _ C D=> ∃b d,a=b++d/\B=d.length/\C=.int .i64 (b.length:Nat)/\b.all (fun f=> !(f.alias.toList==s.toList))=true/\D=w)
 case atStart=>exact⟨[],a,rfl,rfl,rfl,rfl,rfl⟩
 case round=>
  obtain⟨b,d,i,rfl,rfl,o,E⟩:=hrel;obtain rfl:=E.symm;have p:b.length+d.length=a.length:=by rw[i,Jk]
  obtain⟨h,j⟩:=ag i o;clear i o
  cases d with
  |nil=>
   have G:decide (b.length<a.length)=false:=by simp at p⊢;omega
   go_wp2;go_ret;refine⟨⟨none,rfl,?_⟩,rfl⟩;have e:ck a s=none:=by rw[U h,ry (U j)];rfl
   unfold o9;rw[e]
  |cons f d=>
   rw[Ju]at p;have G:decide (b.length<a.length)=true:=by simp;omega
   obtain⟨H,T,k,I,V,q,r⟩:=z.srcAt h;injection k with k _ J;subst k J;have K:Hid (a=(b++[f])++d):=by unfold Hid;rw[U h];simp
   obtain⟨L,M⟩:=ag q r;clear q r
   cases t:(f.alias.toList==s.toList)with
   |true=>
    have l:=ab t;go_wp2;go_ret;refine⟨⟨_,rfl,?_⟩,rfl⟩;have e:ck a s=some f:=by rw[U h,ry (U j)];unfold ck;rw[List.find?_cons,U l]
    unfold o9;rw[e];exact⟨by rw[U h];simp,H,b.length*3,by simp,I,L,M,rfl⟩
   |false=>
    have l:=ab t;go_wp2;go_roundg d.length
    case measure=>simp
    case rel=>
     refine⟨b++[f],d,K,rfl,?_,?_,rfl⟩
     ·rw[Jk];go_num
     ·rw[Ld,j,LI,U l];rfl
theorem ER{pre suf:List ByteArray}{c:ByteArray}:decide (Lib.idxOfS (pre++c::suf) c<(pre.length:Int))=Lib.containsS pre c:=by
 cases f:Lib.containsS pre c with
 |true=>
  rw[JQ];rw[J2]at f
  have g: ∀(a:List ByteArray) (b:Nat),c∈a->Lib.idxFromS (a++c::suf) c b<((b+a.length:Nat):Int):=by
   intro a
   induction a with
   |nil=>intro b d;cases d
   |cons k l h=>
    intro b d;rw[KS,Lib.idxFromS];split
    ·simp;omega
    ·rename_i i
     rcases JG.1 d with e|e
     ·exact absurd e.symm i
     ·have:=h (b+1) e;simp only[Ju];omega
  have:=g pre 0 f;unfold Lib.idxOfS;rw[JV]at this;exact this
 |false=>
  rw[Ku];have j: ¬c∈pre:=fun d=>by rw[(J2 _ _).2 d]at f;cases f
  unfold Lib.idxOfS;rw[mW j,Lib.idxFromS,Jo rfl];simp
theorem Bo(t:Tb)(Q R an:Value)(ahead:List Tb)(w:World)(ao:aS w Q (aB t.cols))(ap:bZ w R t.rows)(ar:bp w an ahead):
  Calls prog 75 #[.agg #[.string t.name,Q,R],an] w fun e w'=>e=.returned (.int .i64 (p6 t ahead))/\Below w.heap.size w w':=by
 obtain⟨a3,br,bs⟩:=aC ao ap ar;obtain⟨L,A,rfl,au,S⟩:=ao;obtain⟨av,⟨G,H,rfl,ax,T⟩,ay,aA⟩:=ap;obtain⟨bt,bu,rfl,a4,_,aI⟩:=ar;rw[Jm]at au S;simp only[Jm];rw[ay]at ax T;rw[ay];unfold maxLen at au ax a4;obtain⟨aJ,a5,a9,a'⟩:=aP S T aI aA;clear S T aI aA;go_enter func75,ntmps75;go_wp2_with fail;refine(ru t.name _).mono ?_;rintro e V ⟨rfl,W⟩;have X:Hid (Below w.heap.size w V):=((Jj _ _).alloc (Ji _) _).trans (W.mono (by simp));have N:Hid (V.heap[w.heap.size]? =some (.cells #[.string t.name,.slice L t.cols.length A,.slice G t.rows.length H] 204 (0,0))):=by unfold Hid;rw[W.block _ (by simp)];exact af rfl
 have ba:=(blk N).1;have bb:=aa N;clear W
 cases Y:dV t.name.data.toList with
 |false=>
  have O:=ab Y;go_wp2;go_ret;refine⟨?_,X⟩;have e:p6 t ahead=4:=by unfold p6;rw[U O];rfl
  rw[e];rfl
 |true=>
  have O:=ab Y;clear Y;go_wp2_with fail;clear ba bb
  go_loopg [5,6] t.cols.length (fun B bc C o=> ∃a b,t.cols=a++b/\B=b.length/\bc=.bool true/\C=.int .i64 (a.length:Nat)/\a.any (fun g=> !dV g.data.toList)=false/\Below w.heap.size w o/\o.heap[w.heap.size]? =some (.cells #[.string t.name,.slice L t.cols.length A,.slice G t.rows.length H] 204 (0,0)))
  case atStart=>exact⟨[],t.cols,rfl,rfl,rfl,rfl,rfl,X,N⟩
  case round=>
   clear X N V;obtain⟨a,b,i,rfl,rfl,rfl,q,r,s⟩:=hrel;have j:a.length+b.length=t.cols.length:=by rw[i,Jk]
   obtain⟨d,h,c,f⟩:=aP i q r s;have D:=(blk f).1;have y:=aa f;clear i q r s
   cases b with
   |cons g b=>
    rw[Ju]at j;have v:decide (a.length<t.cols.length)=true:=by simp;omega
    obtain⟨l,m,rfl,x,u⟩:=(U aJ) (by omega)
    have I:wr.cell? ⟨l,m+a.length,none⟩=some (.string g):=by rw[c.cell (p:=⟨l,m+a.length,none⟩) x,u _ (by omega),U d];simp
    have E:Hid (t.cols=(a++[g])++b):=by unfold Hid;rw[U d];simp
    clear u;go_wp2_with fail;refine(ru g _).mono ?_;rintro e P ⟨rfl,Z⟩;have aL:Hid (Below w.heap.size w P):=c.trans (Z.mono (by have:=c.size;omega));have be:Hid (P.heap[w.heap.size]? =some (.cells #[.string t.name,.slice (some ⟨l,m,none⟩) t.cols.length A,.slice G t.rows.length H] 204 (0,0))):=by unfold Hid;rw[Z.block _ y];exact f
    clear Z D y I
    cases M:dV g.data.toList with
    |false=>
     have F:=ab M;go_wp2;go_ret;refine⟨?_,aL⟩;have e:p6 t ahead=4:=by unfold p6;rw[U d,Kw,Kq,U F];simp
     rw[e];rfl
    |true=>
     have F:=ab M;go_wp2;go_roundg b.length
     case measure=>simp
     case rel=>
      refine⟨a++[g],b,E,rfl,rfl,?_,?_,aL,be⟩
      ·rw[Jk];go_num
      ·rw[Kw,h,Kq,U F];rfl
   |nil=>
    have v:decide (a.length<t.cols.length)=false:=by simp at j⊢;omega
    have aN:Hid (t.cols.any (fun g=> !dV g.data.toList)=false):=by unfold Hid;rw[U d,JD];exact h
    clear d h j;by_cases bv:t.cols.length<1∨6<t.cols.length∨200<t.rows.length
    ·have z:Hid (p6 t ahead=9):=by
      unfold Hid p6;rw[U O,aN,Jn (by simp),Jo];simp only[J8,JQ];omega
     by_cases d1:t.cols.length<1
     ·have ac:decide ((t.cols.length:Int)<1)=true:=by simp;omega
      go_wp2;go_ret;exact⟨by rw[U z];rfl,c⟩
     ·have ac:decide ((t.cols.length:Int)<1)=false:=by simp;omega
      by_cases d2:6<t.cols.length
      ·have ad:decide ((6:Int)<(t.cols.length:Int))=true:=by simp;omega
       go_wp2;go_ret;exact⟨by rw[U z];rfl,c⟩
      ·have ad:decide ((6:Int)<(t.cols.length:Int))=false:=by simp;omega
       have aR:decide ((200:Int)<(t.rows.length:Int))=true:=by simp;omega
       go_wp2;go_ret;exact⟨by rw[U z];rfl,c⟩
    ·have ac:decide ((t.cols.length:Int)<1)=false:=by simp;omega
     have ad:decide ((6:Int)<(t.cols.length:Int))=false:=by simp;omega
     have aR:decide ((200:Int)<(t.rows.length:Int))=false:=by simp;omega
     have z:Hid (p6 t ahead=if ahead.any (fun k=>k.name.toList==t.name.toList)||jL [] t.cols then 7 else if t.rows.any (fun n=>decide (n.length≠t.cols.length))then 10 else 0):=by unfold Hid p6;rw[U O,aN,Jn (by simp),Jn];simp only[J8,JQ];omega
     go_wp2_with fail;clear ac ad aR D y v
     go_loopg [7] ahead.length (fun B C o=> ∃a b,ahead=a++b/\B=b.length/\C=.int .i64 (a.length:Nat)/\a.any (fun k=>k.name.toList==t.name.toList)=false/\Below w.heap.size w o/\o.heap[w.heap.size]? =some (.cells #[.string t.name,.slice L t.cols.length A,.slice G t.rows.length H] 204 (0,0)))
     case atStart=>exact⟨[],ahead,rfl,rfl,rfl,rfl,c,f⟩
     case round=>
      clear c f;obtain⟨a,b,i,rfl,rfl,q,r,s⟩:=hrel;have j:a.length+b.length=ahead.length:=by rw[i,Jk]
      obtain⟨d,h,c,f⟩:=aP i q r s;have D:=(blk f).1;have y:=aa f;clear i q r s
      cases b with
      |cons k b=>
       rw[Ju]at j;have v:decide (a.length<ahead.length)=true:=by simp;omega
       obtain⟨l,m,rfl,x,u⟩:=(U a9) (by omega)
       obtain⟨Q,R,_,I,bg,bk⟩:=u a.length k (by rw[U d];simp);rw[<-c.cell (p:=⟨l,m+a.length*3,none⟩) x]at I;rw[<-c.cell (p:=⟨l,m+a.length*3+1,none⟩) x]at bg;rw[<-c.cell (p:=⟨l,m+a.length*3+2,none⟩) x]at bk;have E:Hid (ahead=(a++[k])++b):=by unfold Hid;rw[U d];simp
       clear u
       cases M:(k.name.toList==t.name.toList)with
       |true=>
        have F:=ab M;go_wp2
        go_region
        go_wp2;go_ret;refine⟨?_,c.drew⟩;have e:p6 t ahead=7:=by rw[U z,Jo];rw[U d,Kw,Kq,U F];simp
        rw[e];rfl
       |false=>
        have F:=ab M;go_wp2
        go_region
        go_wp2;go_roundg b.length
        case measure=>simp
        case rel=>
         refine⟨a++[k],b,E,rfl,?_,?_,c.drew,f⟩
         ·rw[Jk];go_num
         ·rw[Kw,h,Kq,U F];rfl
      |nil=>
       have v:decide (a.length<ahead.length)=false:=by simp at j⊢;omega
       have aT:Hid (ahead.any (fun k=>k.name.toList==t.name.toList)=false):=by unfold Hid;rw[U d,JD];exact h
       clear d h j;go_wp2_with fail;clear D y v
       go_loopg [8] t.cols.length (fun B C o=> ∃a b,t.cols=a++b/\B=b.length/\C=.int .i64 (a.length:Nat)/\jL [] t.cols=jL a b/\Below w.heap.size w o/\o.heap[w.heap.size]? =some (.cells #[.string t.name,.slice L t.cols.length A,.slice G t.rows.length H] 204 (0,0)))
       case atStart=>exact⟨[],t.cols,rfl,rfl,rfl,rfl,c,f⟩
       case round=>
        clear c f;obtain⟨a,b,i,rfl,rfl,q,r,s⟩:=hrel;have j:a.length+b.length=t.cols.length:=by rw[i,Jk]
        obtain⟨d,h,c,f⟩:=aP i q r s;have D:=(blk f).1;have y:=aa f;clear i q r s
        cases b with
        |cons g b=>
         rw[Ju]at j;have v:decide (a.length<t.cols.length)=true:=by simp;omega
         obtain⟨l,m,rfl,x,u⟩:=(U aJ) (by omega)
         have I:wr.cell? ⟨l,m+a.length,none⟩=some (.string g):=by rw[c.cell (p:=⟨l,m+a.length,none⟩) x,u _ (by omega),U d];simp
         have E:Hid (t.cols=(a++[g])++b):=by unfold Hid;rw[U d];simp
         clear u;have aU:decide (Lib.idxOfS t.cols g<(a.length:Int))=Lib.containsS a g:=by rw[U d];exact ER
         have aV:Hid (aS wr.drew (.slice (some ⟨l,m,none⟩) t.cols.length A) (aB t.cols)):=by have a0:=a3.keep (c.drew);rw[Jm]at a0;exact a0
         cases J:Lib.containsS a g with
         |true=>
          rw[J]at aU;have ae:=ab J;clear J;have bl:Hid (p6 t ahead=7):=by unfold Hid;rw[U z,Jo];rw[U h,jL,U ae];simp
          go_wp2_with fail
          go_region_with (go_at_call 85;refine(lJ _ t.cols g _ (by exact aV)).mono ?_;rintro e P ⟨rfl,aj⟩;obtain rfl:=aj.symm)
          all_goals
           go_wp2;go_ret;exact⟨by rw[U bl];rfl,c.drew⟩
         |false=>
          rw[J]at aU;have ae:=ab J;clear J;go_wp2_with fail
          go_region_with (go_at_call 85;refine(lJ _ t.cols g _ (by exact aV)).mono ?_;rintro e P ⟨rfl,aj⟩;obtain rfl:=aj.symm)
          all_goals
           go_wp2;go_roundg b.length
           case measure=>simp
           case rel=>
            refine⟨a++[g],b,E,rfl,?_,?_,c.drew,f⟩
            ·rw[Jk];go_num
            ·rw[U h,jL,U ae];rfl
        |nil=>
         have v:decide (a.length<t.cols.length)=false:=by simp at j⊢;omega
         have a1:Hid (jL [] t.cols=false):=U h;clear d h j;go_wp2_with fail;clear D y v
         go_loopg [9] t.rows.length (fun B C o=> ∃a b,t.rows=a++b/\B=b.length/\C=.int .i64 (a.length:Nat)/\a.any (fun n=>decide (n.length≠t.cols.length))=false/\Below w.heap.size w o/\o.heap[w.heap.size]? =some (.cells #[.string t.name,.slice L t.cols.length A,.slice G t.rows.length H] 204 (0,0)))
         case atStart=>exact⟨[],t.rows,rfl,rfl,rfl,rfl,c,f⟩
         case round=>
          clear c f;obtain⟨a,b,i,rfl,rfl,q,r,s⟩:=hrel;have j:a.length+b.length=t.rows.length:=by rw[i,Jk]
          obtain⟨d,h,c,f⟩:=aP i q r s;have D:=(blk f).1;have y:=aa f;clear i q r s
          cases b with
          |cons n b=>
           rw[Ju]at j;have v:decide (a.length<t.rows.length)=true:=by simp;omega
           obtain⟨l,m,rfl,x,u⟩:=(U a5) (by omega)
           obtain⟨k,ak⟩: ∃k,av[a.length]? =some k:=⟨av[a.length]'(by omega),Jl _⟩
           have I:wr.cell? ⟨l,m+a.length,none⟩=some k:=by rw[c.cell (p:=⟨l,m+a.length,none⟩) x,u _ (by omega),ak]
           obtain⟨bx,bz,rfl,a2,_⟩:=(U a') a.length n k (by rw[U d];simp) ak;rw[Jm]at I a2;unfold maxLen at a2;have E:Hid (t.rows=(a++[n])++b):=by unfold Hid;rw[U d];simp
           clear u ak;by_cases K:n.length=t.cols.length
           ·have bn:((n.length:Int) !=(t.cols.length:Int))=false:=by rw[K];simp
            have al:=ab K;clear K;go_wp2
            go_region
            go_wp2;go_roundg b.length
            case measure=>simp
            case rel=>
             refine⟨a++[n],b,E,rfl,?_,?_,c.drew,f⟩
             ·rw[Jk];go_num
             ·rw[Kw,h,Kq,U al];simp
           ·have bn:((n.length:Int) !=(t.cols.length:Int))=true:=by
             rw[KZ];intro e;exact K (by exact_mod_cast e)
            have al:=ab K;clear K;go_wp2
            go_region
            go_wp2;go_ret;refine⟨?_,c.drew⟩;have e:p6 t ahead=10:=by rw[U z,aT,a1,Jn (by simp),Jo];rw[U d,Kw,Kq,Ko (U al)];simp
            rw[e];rfl
          |nil=>
           have v:decide (a.length<t.rows.length)=false:=by simp at j⊢;omega
           have bq:Hid (t.rows.any (fun n=>decide (n.length≠t.cols.length))=false):=by unfold Hid;rw[U d,JD];exact h
           clear d h j;go_wp2;go_ret;refine⟨?_,c⟩;have e:p6 t ahead=0:=by rw[U z,aT,a1,Jn (by simp),U bq];rfl
           rw[e];rfl
def nK(l:List Tb)(g:Nat):Value:=if bT l=0 then .tuple #[.pointer (some ⟨g,0,none⟩),.agg #[.int .i64 0,.int .i64 0]]else .tuple #[.pointer none,.agg #[.int .i64 (bT l),.int .i64 (-1)]]
theorem xO(s:Value)(l:List Tb)(w:World)(E:bp w s l):
  Calls prog 47 #[s] w fun e w'=> ∃g,e=.returned (nK l g)/\w.heap.size<=g/\(bT l=0->w'.heap[g]? =some (.cells #[s,.slice none 0 0] 159 (0,0)))/\Below w.heap.size w w':=by
 have T:=ab E;obtain⟨V,t,rfl,W,ay,F⟩:=E;unfold maxLen at W;have X:=ab F;clear F;by_cases G:4<l.length
 ·have k:decide ((4:Int)<(l.length:Int))=true:=by simp;omega
  have i:Hid (bT l=9):=by unfold Hid bT;rw[Jo G]
  go_enter func47,ntmps47;go_wp2;refine Jr (v:=.tuple #[.pointer none,.agg #[.int .i64 9,.int .i64 (-1)]]) (by simp[results,results47,go_sem]) rfl ⟨w.heap.size,?_,Ji _,fun f=>?_,?_⟩
  ·unfold nK;rw[U i];rfl
  ·rw[U i]at f;cases f
  ·exact(Jj _ _).alloc (Ji _) _
 ·have k:decide ((4:Int)<(l.length:Int))=false:=by simp;omega
  have i:Hid (bT l=dR [] l):=by unfold Hid bT;rw[Jn G]
  go_enter func47,ntmps47;go_wp2_with fail;clear k
  go_loopg [4] l.length (fun Y Z H=> ∃a c,l=a++c/\Y=c.length/\Z=.int .i64 (a.length:Nat)/\bT l=dR a c/\Below w.heap.size w H/\H.heap[w.heap.size]? =some (.cells #[.int .i64 0,.int .i64 0] 27 (0,0)))
  case atStart=>exact⟨[],l,rfl,rfl,rfl,i,(Jj _ _).alloc (Ji _) _,af rfl⟩
  case round=>
   clear i;obtain⟨a,c,u,rfl,rfl,I,J,K⟩:=hrel;have L:a.length+c.length=l.length:=by rw[u,Jk]
   obtain⟨x,y,d,m⟩:=aP u I J K;have ac:=aa m;obtain⟨ad,ae⟩:=blk m;clear u I J K
   cases c with
   |nil=>
    have aj:decide (a.length<l.length)=false:=by simp at L⊢;omega
    go_wp2;have z:Hid ((((wr.setCell ⟨w.heap.size,0,none⟩ (.int .i64 0)).setCell ⟨w.heap.size,1,none⟩ (.int .i64 0)).alloc (.cells #[.slice V l.length t,.slice none 0 0] 159)).heap[w.heap.size]? =some (.cells #[.int .i64 0,.int .i64 0] 27 (0,0))):=ai (am (am m _) _);have A:=(blk z).1;refine Jr (v:=.tuple #[.pointer (some ⟨wr.heap.size,0,none⟩),.agg #[.int .i64 0,.int .i64 0]]) (by simp[results,results47,go_sem,A]) rfl ⟨wr.heap.size,?_,d.size,fun f=>?_,?_⟩
    ·unfold nK;rw[U y];rfl
    ·exact af (by simp)
    ·exact((d.setCell (Ji _) _).setCell (Ji _) _).alloc (by have:=d.size;simpa using this) _
   |cons b c=>
    rw[Ju]at L;have aj:decide (a.length<l.length)=true:=by simp;omega
    obtain⟨n,o,rfl,B,M⟩:=(U X) (by omega)
    obtain⟨aA,aI,N,ak,al,an⟩:=M a.length b (by rw[U x];simp);rw[<-d.cell (p:=⟨n,o+a.length*3,none⟩) B]at ak;rw[<-d.cell (p:=⟨n,o+a.length*3+1,none⟩) B]at al;rw[<-d.cell (p:=⟨n,o+a.length*3+2,none⟩) B]at an;have O:=ab (N.keep d);have ao:Hid (l=(a++[b])++c):=by unfold Hid;rw[U x];simp
    clear M N;have ap:Hid (bp wr (.slice (some ⟨n,o,none⟩) a.length t) a):=by have f:=T.keep d;rw[U x]at f;exact f.ahead
    obtain⟨aJ,aL,j,P,_,Q⟩:=U O;injection j with _ j;injection j with ar j;injection j with au _;subst ar au;obtain⟨av,ax⟩:=ag P Q;clear P Q O;have aN:a.length<=t:=by omega
    go_wp2_with fail
    go_region_with (go_at_call 75;refine(Bo b _ _ _ a _ (by exact av) (by exact ax) (by exact ap)).mono ?_;rintro e C ⟨rfl,D⟩;have R:Hid (Below w.heap.size w C):=d.drew.trans (D.mono (by have:=d.size;simpa using this));have q:Hid (C.heap[w.heap.size]? =some (.cells #[.int .i64 0,.int .i64 0] 27 (0,0))):=(D.block _ (by exact ac)).trans m;have aR:=aa q;obtain⟨aT,aU⟩:=blk q;clear D)
    clear ad ae;by_cases h:p6 b a=0
    ·have k:(p6 b a !=0)=false:=by rw[h];rfl
     have r:Hid (bT l=dR (a++[b]) c):=by unfold Hid;rw[U y,dR,Jo h]
     go_wp2;go_roundg c.length
     case measure=>simp
     case rel=>refine⟨a++[b],c,ao,rfl,?_,r,R,q⟩;rw[Jk];go_num
    ·have k:(p6 b a !=0)=true:=by simpa using h
     have r:Hid (bT l=p6 b a):=by unfold Hid;rw[U y,dR,Jn h]
     have S:=ab h;clear h;go_wp2;have z:Hid (((C.setCell ⟨w.heap.size,0,none⟩ (.int .i64 (p6 b a))).setCell ⟨w.heap.size,1,none⟩ (.int .i64 (-1))).heap[w.heap.size]? =some (.cells #[.int .i64 (p6 b a),.int .i64 (-1)] 27 (0,0))):=am (am q _) _;have A:=(blk z).1;refine Jr (v:=.tuple #[.pointer none,.agg #[.int .i64 (p6 b a),.int .i64 (-1)]]) (by simp[results,results47,go_sem,A]) rfl ⟨w.heap.size,?_,Ji _,fun f=>?_,?_⟩
     ·unfold nK;rw[U r,Jn (U S)]
     ·rw[U r]at f;exact absurd f S
     ·exact(R.setCell (Ji _) _).setCell (Ji _) _
theorem xP(s:ByteArray)(w:World):Calls prog 137 #[.string s] w fun e w'=>e=.returned (.bool (!dV s.data.toList))/\w'=w:=by go_enter func137,ntmps137;go_wp2_with fail;refine(sR s _).mono ?_;rintro e b ⟨rfl,a⟩;obtain rfl:=a.symm;go_wp2;go_ret;exact⟨rfl,rfl⟩
theorem tg(a:Value)(ts:List ByteArray)(w:World)(r:aS w a (aB ts)):
  Calls prog 209 #[a,.func (.func 137) #[] #[]] w fun e w'=> ∃n:Int,e=.returned (.int .i64 n)/\decide (0<=n)=ts.any (fun c=> !dV c.data.toList)/\w'=w:=by
 obtain⟨D,E,rfl,k,h⟩:=r;rw[Jm]at k h;unfold maxLen at k;simp only[Jm];have s:=ab h;clear h;go_enter func209,ntmps209;go_wp2_with fail
 go_loopg [5,8] ts.length (fun t F u v=> ∃b d,ts=b++d/\t=d.length/\u=.int .i64 (b.length:Nat)/\b.any (fun c=> !dV c.data.toList)=false/\v=w)
 case atStart=>exact⟨[],ts,rfl,rfl,rfl,rfl,rfl⟩
 case round=>
  obtain⟨b,d,i,rfl,rfl,l,x⟩:=hrel;obtain rfl:=x.symm;have m:b.length+d.length=ts.length:=by rw[i,Jk]
  obtain⟨g,o⟩:=ag i l;clear i l
  cases d with
  |nil=>
   have y:decide (b.length<ts.length)=false:=by simp at m⊢;omega
   go_wp2;go_ret;refine⟨-1,rfl,?_,rfl⟩;rw[U g,JD,U o];rfl
  |cons f d=>
   rw[Ju]at m;have y:decide (b.length<ts.length)=true:=by simp;omega
   obtain⟨z,A,rfl,G,p⟩:=(U s) (by omega)
   have H:w.cell? ⟨z,A+b.length,none⟩=some (.string f):=by rw[p _ (by omega),U g];simp
   have B:Hid (ts=(b++[f])++d):=by unfold Hid;rw[U g];simp
   clear p;go_wp2_with fail;refine(xP f _).mono ?_;rintro e I ⟨rfl,C⟩;obtain rfl:=C.symm
   cases q:dV f.data.toList with
   |false=>have j:=ab q;go_wp2;go_ret;refine⟨(b.length:Int),rfl,?_,rfl⟩;rw[U g,Kw,Kq,U j];simp
   |true=>
    have j:=ab q;go_wp2;go_roundg d.length
    case measure=>simp
    case rel=>
     refine⟨b++[f],d,B,rfl,?_,?_,rfl⟩
     ·rw[Jk];go_num
     ·rw[Kw,o,Kq,U j];rfl
theorem ws(a:Value)(ts:List ByteArray)(w:World)(b:aS w a (aB ts)):
  Calls prog 136 #[a,.func (.func 137) #[] #[]] w fun e w'=>e=.returned (.bool (ts.any (fun c=> !dV c.data.toList)))/\w'=w:=by
 have f:=ab b;clear b;go_enter func136,ntmps136;go_wp2_with fail;refine(tg a ts _ (by exact f)).mono ?_;rintro e i ⟨j,rfl,d,g⟩;obtain rfl:=g.symm;have h:=ab d;clear d;go_wp2;go_ret;exact⟨by rw[<-U h];rfl,rfl⟩
theorem CR(nm:ByteArray)(b c:Value)(s:ByteArray)(g:Nat)(w:World)(a:w.heap[g]? =some (.cells #[.string s] 9 (0,0))):
  Calls prog 211 #[.agg #[.string nm,b,c],.pointer (some ⟨g,0,none⟩)] w fun e w'=>e=.returned (.bool (nm.toList==s.toList))/\Below w.heap.size w w':=by
 have d:=(blk a).1 0;have f:=aa a;clear a;go_enter func211,ntmps211;go_wp2;go_ret;exact⟨rfl,(Jj _ _).alloc (Ji _) _⟩
theorem uB(o:Value)(l:List Tb)(s:ByteArray)(g:Nat)(w:World)(q:bp w o l)(r:w.heap[g]? =some (.cells #[.string s] 9 (0,0))):
  Calls prog 267 #[o,.func (.func 211) #[] #[.pointer (some ⟨g,0,none⟩)]] w fun e w'=> ∃n:Int,e=.returned (.int .i64 n)/\decide (0<=n)=l.any (fun u=>u.name.toList==s.toList)/\Below w.heap.size w w':=by
 obtain⟨S,t⟩:=ag q r;clear r;obtain⟨T,V,rfl,I,W,v⟩:=q;unfold maxLen at I;have J:=ab v;clear v;go_enter func267,ntmps267;go_wp2_with fail
 go_loopg [5,8] l.length (fun K X L M=> ∃a b,l=a++b/\K=b.length/\L=.int .i64 (a.length:Nat)/\a.any (fun u=>u.name.toList==s.toList)=false/\Below w.heap.size w M)
 case atStart=>exact⟨[],l,rfl,rfl,rfl,rfl,Jj _ _⟩
 case round=>
  obtain⟨a,b,h,rfl,rfl,x,y⟩:=hrel;have z:a.length+b.length=l.length:=by rw[h,Jk]
  obtain⟨f,A,c⟩:=aC h x y;clear h x y
  cases b with
  |nil=>
   have N:decide (a.length<l.length)=false:=by simp at z⊢;omega
   go_wp2;go_ret;refine⟨-1,rfl,?_,c⟩;rw[U f,JD,U A];rfl
  |cons d b=>
   rw[Ju]at z;have N:decide (a.length<l.length)=true:=by simp;omega
   obtain⟨i,j,rfl,k,B⟩:=(U J) (by omega)
   obtain⟨O,P,_,C,D,E⟩:=B a.length d (by rw[U f];simp);rw[<-c.cell (p:=⟨i,j+a.length*3,none⟩) k]at C;rw[<-c.cell (p:=⟨i,j+a.length*3+1,none⟩) k]at D;rw[<-c.cell (p:=⟨i,j+a.length*3+2,none⟩) k]at E;have Q:Hid (l=(a++[d])++b):=by unfold Hid;rw[U f];simp
   clear B;go_wp2_with fail;refine(CR d.name O P s g _ (by rw[c.block g (aa (U t))];exact t)).mono ?_;rintro e R ⟨rfl,F⟩;have G:Hid (Below w.heap.size w R):=c.trans (F.mono c.size);clear F C D E
   cases H:(d.name.toList==s.toList)with
   |true=>have m:=ab H;go_wp2;go_ret;refine⟨(a.length:Int),rfl,?_,G⟩;rw[U f,Kw,Kq,U m];simp
   |false=>
    have m:=ab H;go_wp2;go_roundg b.length
    case measure=>simp
    case rel=>
     refine⟨a++[d],b,Q,rfl,?_,?_,G⟩
     ·rw[Jk];go_num
     ·rw[Kw,A,Kq,U m];rfl
theorem xQ(a:Value)(l:List Tb)(s:ByteArray)(g:Nat)(w:World)(b:bp w a l)(c:w.heap[g]? =some (.cells #[.string s] 9 (0,0))):
  Calls prog 210 #[a,.func (.func 211) #[] #[.pointer (some ⟨g,0,none⟩)]] w fun e w'=>e=.returned (.bool (l.any (fun u=>u.name.toList==s.toList)))/\Below w.heap.size w w':=by
 obtain⟨h,i⟩:=ag b c;clear b c;go_enter func210,ntmps210;go_wp2_with fail;refine(uB a l s g _ (by exact h) (by exact i)).mono ?_;rintro e m ⟨n,rfl,d,f⟩;obtain⟨j,k⟩:=ag d f;clear d f;go_wp2;go_ret;exact⟨by rw[<-U j];rfl,k⟩
theorem xR(a:Value)(l:List Tb)(s:ByteArray)(w:World)(b:bp w a l):
  Calls prog 138 #[a,.string s] w fun e w'=>e=.returned (.bool (l.any (fun u=>u.name.toList==s.toList)))/\Below w.heap.size w w':=by
 have d:=ab b;clear b;go_enter func138,ntmps138;go_wp2_with fail;refine(xQ a l s w.heap.size _ (d.keep ((Jj _ _).alloc (Ji _) _)) (af rfl)).mono ?_;rintro e f ⟨rfl,c⟩;have g:Hid (Below w.heap.size w f):=((Jj _ _).alloc (Ji _) _).trans (c.mono (by simp));clear c;go_wp2;go_ret;exact⟨rfl,g⟩
theorem Gu(n m:Nat):((n:Int) !=(m:Int))=decide (n≠m):=by rw[KY,KZ,JQ];omega
theorem ES(b:Option Addr)(n c:Nat)(nm:ByteArray)(d:Option Addr)(m f:Nat)(h:Value)(g:Nat)(w:World)(a:w.heap[g]? =some (.cells #[.string nm,.slice d m f,h] 44 (0,0))):
  Calls prog 141 #[.slice b n c,.pointer (some ⟨g,0,none⟩)] w fun e w'=>e=.returned (.bool (decide (n≠m)))/\Below w.heap.size w w':=by
 have i:=(blk a).1;have j:=aa a;clear a;go_enter func141,ntmps141;go_wp2;go_ret;exact⟨by simp[decide_not,Gu],Jj _ _⟩
theorem wu(l:Value)(rows:List (List Int))(nm:ByteArray)(o:Option Addr)(m q:Nat)(s:Value)(g:Nat)(w:World)(L:bZ w l rows)(t:w.heap[g]? =some (.cells #[.string nm,.slice o m q,s] 44 (0,0))):
  Calls prog 213 #[l,.func (.func 141) #[] #[.pointer (some ⟨g,0,none⟩)]] w fun e w'=> ∃n:Int,e=.returned (.int .i64 n)/\decide (0<=n)=rows.any (fun r=>decide (r.length≠m))/\Below w.heap.size w w':=by
 have u:=ab t;clear t;obtain⟨v,⟨Y,Z,rfl,x,h⟩,y,z⟩:=L;rw[y]at x h;rw[y];unfold maxLen at x;obtain⟨M,N⟩:=ag h z;clear h z;go_enter func213,ntmps213;go_wp2_with fail
 go_loopg [5,8] rows.length (fun O ac P Q=> ∃a b,rows=a++b/\O=b.length/\P=.int .i64 (a.length:Nat)/\a.any (fun r=>decide (r.length≠m))=false/\Below w.heap.size w Q)
 case atStart=>exact⟨[],rows,rfl,rfl,rfl,rfl,Jj _ _⟩
 case round=>
  obtain⟨a,b,i,rfl,rfl,A,B⟩:=hrel;have C:a.length+b.length=rows.length:=by rw[i,Jk]
  obtain⟨d,D,c⟩:=aC i A B;clear i A B
  cases b with
  |nil=>
   have R:decide (a.length<rows.length)=false:=by simp at C⊢;omega
   go_wp2;go_ret;refine⟨-1,rfl,?_,c⟩;rw[U d,JD,U D];rfl
  |cons r b=>
   rw[Ju]at C;have R:decide (a.length<rows.length)=true:=by simp;omega
   obtain⟨E,F,rfl,S,G⟩:=(U M) (by omega)
   obtain⟨f,j⟩: ∃f,v[a.length]? =some f:=⟨v[a.length]'(by omega),Jl _⟩
   have H:wr.cell? ⟨E,F+a.length,none⟩=some f:=by rw[c.cell (p:=⟨E,F+a.length,none⟩) S,G _ (by omega),j]
   obtain⟨T,V,rfl,_,_⟩:=(U N) a.length r f (by rw[U d];simp) j;rw[Jm]at H;have W:Hid (rows=(a++[r])++b):=by unfold Hid;rw[U d];simp
   clear G j;go_wp2_with fail;refine(ES T r.length V nm o m q s g _ (by rw[c.block g (aa (U u))];exact u)).mono ?_;rintro e X ⟨rfl,I⟩;have J:Hid (Below w.heap.size w X):=c.trans (I.mono c.size);clear I H
   cases K:decide (r.length≠m)with
   |true=>have k:=ab K;go_wp2;go_ret;refine⟨(a.length:Int),rfl,?_,J⟩;rw[U d,Kw,Kq,U k];simp
   |false=>
    have k:=ab K;go_wp2;go_roundg b.length
    case measure=>simp
    case rel=>
     refine⟨a++[r],b,W,rfl,?_,?_,J⟩
     ·rw[Jk];go_num
     ·rw[Kw,D,Kq,U k];rfl
theorem zI(a:Value)(rows:List (List Int))(nm:ByteArray)(b:Option Addr)(m c:Nat)(d:Value)(g:Nat)(w:World)(f:bZ w a rows)(h:w.heap[g]? =some (.cells #[.string nm,.slice b m c,d] 44 (0,0))):
  Calls prog 140 #[a,.func (.func 141) #[] #[.pointer (some ⟨g,0,none⟩)]] w fun e w'=>e=.returned (.bool (rows.any (fun r=>decide (r.length≠m))))/\Below w.heap.size w w':=by
 obtain⟨k,l⟩:=ag f h;clear f h;go_enter func140,ntmps140;go_wp2_with fail;refine(wu a rows nm b m c d g _ (by exact k) (by exact l)).mono ?_;rintro e p ⟨q,rfl,i,j⟩;obtain⟨n,o⟩:=ag i j;clear i j;go_wp2;go_ret;exact⟨by rw[<-U n];rfl,o⟩
theorem aS.ahead{W:World}{a:Option Addr}{n cap:Nat}{pre suf:List ByteArray}(d:aS W (.slice a n cap) (aB (pre++suf))):aS W (.slice a pre.length cap) (aB pre):=by obtain⟨q,r,e,f,b⟩:=d;injection e with g s h;subst g h;rw[Jm,Jk]at f b;refine⟨a,cap,by rw[Jm],by rw[Jm];omega,fun i=>?_⟩;rw[Jm]at i;obtain⟨j,k,l,m,o⟩:=b (by omega);refine⟨j,k,l,m,fun p c=>?_⟩;rw[Jm]at c;rw[o p (by omega),aB,aB,Ks,Jz (by rw[Jm];exact c)]
theorem tj(a:Value)(ts:List ByteArray)(s:ByteArray)(w:World)(p:aS w a (aB ts)):
  Calls prog 268 #[a,.string s] w fun e w'=>e=.returned (.int .i64 (Lib.idxOfS ts s))/\w'=w:=by
 obtain⟨G,H,rfl,k,h⟩:=p;rw[Jm]at k h;unfold maxLen at k;simp only[Jm];have r:=ab h;clear h;go_enter func268,ntmps268;go_wp2_with fail
 go_loopg [5,8] ts.length (fun t I u v=> ∃b c,ts=b++c/\ ¬s∈b/\t=c.length/\u=.int .i64 (b.length:Nat)/\v=w)
 case atStart=>exact⟨[],ts,rfl,(fun x=>by cases x),rfl,rfl,rfl⟩
 case round=>
  obtain⟨b,c,i,l,rfl,rfl,y⟩:=hrel;obtain rfl:=y.symm;have m:b.length+c.length=ts.length:=by rw[i,Jk]
  obtain⟨f,j⟩:=ag i l;clear i l
  cases c with
  |nil=>
   have z:decide (b.length<ts.length)=false:=by simp at m⊢;omega
   go_wp2;go_ret;refine⟨?_,rfl⟩;have e:Lib.idxOfS ts s= -1:=by unfold Lib.idxOfS;rw[U f,mW (U j)];rfl
   rw[e];rfl
  |cons d c=>
   rw[Ju]at m;have z:decide (b.length<ts.length)=true:=by simp;omega
   obtain⟨A,B,rfl,J,n⟩:=(U r) (by omega)
   have K:w.cell? ⟨A,B+b.length,none⟩=some (.string d):=by rw[n _ (by omega),U f];simp
   have C:Hid (ts=(b++[d])++c):=by unfold Hid;rw[U f];simp
   clear n
   cases g:(s.toList==d.toList)with
   |true=>
    have o:d=s:=by rw[KD,JA,JA]at g;exact(J5 g).symm
    have D:Hid (Lib.idxOfS ts s=b.length):=by unfold Hid Lib.idxOfS;rw[U f,mW (U j),Lib.idxFromS,Jo o];simp
    clear o;go_wp2;go_ret;exact⟨by rw[U D];rfl,rfl⟩
   |false=>
    have E:Hid (¬s∈b++[d]):=fun F=>by
     rcases JW.1 F with q|q
     ·exact j q
     ·rw[JN]at q;rw[q]at g;simp at g
    go_wp2;go_roundg c.length
    case measure=>simp
    case rel=>
     refine⟨b++[d],c,C,E,rfl,?_,rfl⟩;rw[Jk]
     go_num
theorem ww(a:Value)(ts:List ByteArray)(s:ByteArray)(w:World)(b:aS w a (aB ts)):
  Calls prog 212 #[a,.string s] w fun e w'=>e=.returned (.bool (Lib.containsS ts s))/\w'=w:=by
 have c:=ab b;clear b;go_enter func212,ntmps212;go_wp2_with fail;refine(tj a ts s _ (by exact c)).mono ?_;rintro e f ⟨rfl,d⟩;obtain rfl:=d.symm;go_wp2;go_ret;exact⟨rfl,rfl⟩
theorem xS(a:Value)(ts:List ByteArray)(w:World)(l:aS w a (aB ts))(u:ts.length<=lX a):
  Calls prog 139 #[a] w fun e w'=>e=.returned (.bool (jL [] ts))/\w'=w:=by
 have v:=ab l;obtain⟨G,m,rfl,n,g⟩:=l;rw[Jm]at n g;rw[lX]at u;unfold maxLen at n;simp only[Jm];have x:=ab g;clear g;go_enter func139,ntmps139;go_wp2_with fail
 go_loopg [3,4,7] ts.length (fun y H I z A=> ∃b c,ts=b++c/\y=c.length/\z=.int .i64 (b.length:Nat)/\jL [] ts=jL b c/\A=w)
 case atStart=>exact⟨[],ts,rfl,rfl,rfl,rfl,rfl⟩
 case round=>
  obtain⟨b,c,h,rfl,rfl,o,B⟩:=hrel;obtain rfl:=B.symm;have p:b.length+c.length=ts.length:=by rw[h,Jk]
  obtain⟨i,j⟩:=ag h o;clear h o
  cases c with
  |nil=>
   have C:decide (b.length<ts.length)=false:=by simp at p⊢;omega
   go_wp2;go_ret;exact⟨by rw[U j];rfl,rfl⟩
  |cons d c=>
   rw[Ju]at p;have C:decide (b.length<ts.length)=true:=by simp;omega
   obtain⟨q,r,rfl,J,s⟩:=(U x) (by omega)
   have K:w.cell? ⟨q,r+b.length,none⟩=some (.string d):=by rw[s _ (by omega),U i];simp
   have D:Hid (ts=(b++[d])++c):=by unfold Hid;rw[U i];simp
   have E:Hid (aS w (.slice (some ⟨q,r,none⟩) b.length m) (aB b)):=by have t:=U v;rw[Jm,U i]at t;exact t.ahead
   have L:b.length<=m:=by omega
   clear s;go_wp2_with fail;refine(ww _ b d _ (by exact E)).mono ?_;rintro e M ⟨rfl,F⟩;obtain rfl:=F.symm
   cases f:Lib.containsS b d with
   |true=>have k:=ab f;clear f;go_wp2;go_ret;exact⟨by rw[U j,jL,U k];rfl,rfl⟩
   |false=>
    have k:=ab f;clear f;go_wp2;go_roundg c.length
    case measure=>simp
    case rel=>
     refine⟨b++[d],c,D,rfl,?_,?_,rfl⟩
     ·rw[Jk];go_num
     ·rw[U j,jL,U k];rfl
def FA(c:Fc)(F:Fx)(w:World)(b d e:Value)(f:Nat)(g:List Sr)(er:Option (Nat×Nat))(w':World)(a:Fx):Prop:=kY w.heap.size F a/\Kp c.fb w w'/\ ∃h,FS c a w' b d e h f g er
theorem qJ{c:Fc}{F:Fx}{w a:World}{f g h i:Value}{j:Nat}{l:List Sr}{er:Option (Nat×Nat)}(d:FS c F w f g h i j l er){b p k:Nat}(e:w.heap.size<=b)(o:cM a b p (bI c.a k))(m:Below w.heap.size w a):
  kY w.heap.size F (F.set b (.cells #[.int .i64 (p:Nat),bI c.a k] 113 (0,0)))/\Kp c.fb w a/\FS c (F.set b (.cells #[.int .i64 (p:Nat),bI c.a k] 113 (0,0))) a f g h i j l er:=by
 have n:F b=none:=d.grow.noneF e;exact⟨kY.set _ e n,Kp.ofBelow m,(d.below m).fixNew d o e n⟩
theorem xU(c:Fc)(F:Fx)(w:World)(d f g l:Value)(h:Nat)(a:List Sr)(er:Option (Nat×Nat))(j:FS c F w d f g l h a er)(b:Nat)(z:Int)(t u:Tk)(m:c.w0.heap[b]? =some (.cells #[.int .i64 z,.int .i64 t.place,.string t.text,.int .i64 u.place,.string u.text] 397 (0,0)))(A:ck a t.text=none):
  Calls prog 288 #[.pointer (some ⟨c.fb,0,none⟩),.pointer (some ⟨b,0,none⟩)] w fun e w'=>e=.returned (.int .i64 0)/\ ∃i,FA c F w d f g h a (bQ er (some (t.place,dY))) w' i:=by
 have k:=(j.old.block b (aa m)).trans m;obtain⟨I,J⟩:=blk k;have K:=aa k;obtain⟨L,p⟩:=ag k j;have M:=j.env.cell 5 (by decide);clear m k j;go_enter func288,ntmps288;go_wp2_with fail;refine(mY c F _ d f g l h a er (by exact p) t.text).mono ?_;rintro e N ⟨⟨O,rfl,q⟩,B⟩;obtain rfl:=B.symm;obtain rfl:=q.no A;clear q
 go_upto_region 3 with(fail)
 go_cut [24] (fun _ C=> ∃i,FA c F w d f g h a (bQ er (some (t.place,dY))) C i)
 case first=>
  go_region_with (first
   |(go_at_call 99;refine(mD _ _ _ _).mono ?_;rintro e P ⟨D,rfl,E,Q,r,s⟩;have n:=ab (qJ p.drew E r s);clear r s)
   |(go_at_call 244;refine(nJ c _ _ d f g l h a er (by exact n.2.2) D t.place dY (Fx.set_same _ _ _)).mono ?_;rintro e G ⟨rfl,v,H,x⟩;have o:Hid (FA c F w d f g h a (bQ er (some (t.place,dY))) G _):=⟨n.1,(((Kp.refl c.fb w).drew).trans n.2.1).trans v,H,x⟩;clear v x))
  all_goals
   go_wp2_with fail;go_meet
   case rel=>exact⟨_,o⟩
 case rest=>obtain⟨i,y⟩:=hcut;have o:=ab y;clear y;go_wp2;go_ret;exact⟨rfl,i,o⟩
theorem ox(s:ByteArray): ∀(l:List ByteArray) (i:Nat),Lib.idxFromS l s i= -1∨((i:Int)<=Lib.idxFromS l s i/\Lib.idxFromS l s i<((i+l.length:Nat):Int))
 | [],i=>Or.inl rfl
 |a::r,i=>by
  rw[Lib.idxFromS];split
  ·exact Or.inr ⟨Int.le_refl _,by rw[Ju];omega⟩
  ·rcases ox s r (i+1)with h|⟨h1,h2⟩
   ·exact Or.inl h
   ·refine Or.inr ⟨by omega,?_⟩;rw[Ju];omega
theorem p5(l:List ByteArray)(s:ByteArray): -1<=Lib.idxOfS l s/\Lib.idxOfS l s<l.length:=by
 unfold Lib.idxOfS;rcases ox s l 0 with h|⟨h1,h2⟩
 ·rw[h];omega
 ·omega
theorem bp.tab{W:World}{b o cap:Nat}{T:List Tb}(h:bp W (.slice (some ⟨b,o,none⟩) T.length cap) T){j:Nat}(i:j<T.length):b<W.heap.size/\ ∃d e,W.cell? ⟨b,o+j*3,none⟩=some (.string (T.getD j bd).name)/\W.cell? ⟨b,o+j*3+1,none⟩=some d/\W.cell? ⟨b,o+j*3+2,none⟩=some e/\aS W d (aB (T.getD j bd).cols)/\bZ W e (T.getD j bd).rows:=by
 obtain⟨v,w,k,_,_,l⟩:=h;injection k with a _ _;subst a;obtain⟨x,y,f,m,n⟩:=l (by omega);injection f with f;injection f with a g;subst a g;have p:T[j]? =some (T.getD j bd):=by simp[List.getD_eq_getElem?_getD,List.getElem?_eq_getElem i]
 obtain⟨d,e,⟨z,A,c,q,_,r⟩,s,t,u⟩:=n j _ p;injection c with _ c;injection c with a c;injection c with g _;subst a g;exact⟨m,d,e,s,t,u,q,r⟩
theorem xV(c:Fc)(F:Fx)(w:World)(a g h o:Value)(d:Nat)(f:List Sr)(er:Option (Nat×Nat))(l:FS c F w a g h o d f er)(b:Nat)(J:Int)(t u:Tk)(z:c.w0.heap[b]? =some (.cells #[.int .i64 J,.int .i64 t.place,.string t.text,.int .i64 u.place,.string u.text] 397 (0,0)))(x:Sr)(ad:ck f t.text=some x)(n:Int)(hn:Lib.idxOfS (bh c.T x) u.text=n)(K:Option (Nat×Nat))(L:Hid (K=if n<0 then some (u.place,eW)else none)):
  Calls prog 288 #[.pointer (some ⟨c.fb,0,none⟩),.pointer (some ⟨b,0,none⟩)] w fun e w'=>e=.returned (.int .i64 (x.first+n))/\ ∃m,FA c F w a g h d f (bQ er K) w' m:=by
 have q:=(l.old.block b (aa z)).trans z;obtain⟨M,ae⟩:=blk q;have aj:=aa q;obtain⟨aT,i⟩:=ag q l;have A:=l.wide;have ak:=l.few;have B:=p5 (bh c.T x) u.text;rw[hn]at B;have al:=ab hn;clear z q l hn;go_enter func288,ntmps288;go_wp2_with fail;refine(mY c F _ a g h o d f er (by exact i) t.text).mono ?_;rintro e aU ⟨⟨aV,rfl,N⟩,an⟩;obtain rfl:=an.symm;obtain⟨C,j,O,rfl,P,ao,D,Q⟩:=N.yes ad;have ap:j≠c.fb:=(i.grow.off a JK j Q).2.1;have ar:=A.2.1 x C;have a0:d<=18:=by have:=A.1;omega
 have a1:x.first<=18:=by omega
 have a2: -1<=n:=B.1;have a3:n<=18:=by omega
 obtain⟨a4,a5,a9,-,R,-,S,-⟩:=(i.tabs _ i.fits).tab (i.ok x C);have T:=ab S;obtain⟨a',ba,rfl,_,_⟩:=S;rw[Jm]at R T;clear N B A ar C Q ak
 go_upto_region 5 with(fail)
 go_cut [6] (fun au r=>au=.int .i64 n/\Below w.heap.size w r)
 case first=>
  go_region_with (go_at_call 268;refine(tj _ (bh c.T x) _ _ (by exact T.keep (Jj _ _).drew)).mono ?_;rintro e av ⟨rfl,ax⟩;obtain rfl:=ax.symm;rw[U al])
  all_goals
   go_wp2_with fail;go_meet
   case rel=>exact⟨rfl,(Jj _ _).drew⟩
 case rest=>
  obtain⟨rfl,s⟩:=hcut;obtain⟨v,E⟩:=ag s (i.below s);have ay:=s.size;clear s R;have bb:wc.cell? ⟨j,O+2,none⟩=some (.int .i64 x.first):=by rw[v.cell (p:=⟨j,_,none⟩) P];exact D
  have bc: ∀y,wc.cell? ⟨b,y,none⟩= #[.int .i64 J,.int .i64 t.place,.string t.text,.int .i64 u.place,.string u.text][y]? :=fun y=>by rw[v.cell (p:=⟨b,_,none⟩) aj];exact M y
  have aA:=ab D;clear ao D M ae;by_cases k:n<0
  ·have aI:decide (n<0)=true:=by simpa using k
   have be:=E.env.cell 6 (by decide);have G:=ab k;clear k
   go_upto_region 7 with(fail)
   go_cut [48] (fun _ r=> ∃m,FA c F w a g h d f (bQ er (some (u.place,eW))) r m/\r.cell? ⟨j,O+2,none⟩=some (.int .i64 x.first))
   case first=>
    go_region_with (first
     |(go_at_call 99;refine(mD _ _ _ _).mono ?_;rintro e av ⟨aJ,rfl,aL,bg,V,W⟩;have H:=ab (qJ E.drew aL V W);clear V W)
     |(go_at_call 244;refine(nJ c _ _ a g h o d f er (by exact H.2.2) aJ u.place eW (Fx.set_same _ _ _)).mono ?_;rintro e X ⟨rfl,Y,aN,Z⟩;have I:Hid (Kp c.fb w X/\FS c _ X a g h aN d f (bQ er (some (u.place,eW)))):=⟨((Kp.ofBelow v.drew).trans H.2.1).trans Y,Z⟩;clear Y Z))
    all_goals
     go_wp2_with fail;go_meet
     case rel=>exact⟨_,⟨H.1.mono (by exact ay),I.1,_,I.2⟩,by rw[I.1.cell (p:=⟨j,_,none⟩) P ap];exact aA⟩
   case rest=>obtain⟨m,ac,bk⟩:=hcut;have aR:=ab ac;clear ac;go_wp2;go_ret;refine⟨rfl,m,?_⟩;rw[U L,Jo (U G)];exact aR
  ·have aI:decide (n<0)=false:=by simpa using k
   have G:Hid (0<=n):=Mv.1 k;clear k;go_wp2;go_ret;refine⟨rfl,F,?_⟩;rw[U L,Jn (Mv.2 (U G)),lj];exact⟨kY.refl _ _,Kp.ofBelow v,o,E⟩
theorem zJ(c:Fc)(F:Fx)(w:World)(g h i l:Value)(j:Nat)(a:List Sr)(er:Option (Nat×Nat))(q:FS c F w g h i l j a er)(b:Nat)(m:Int)(t u:Tk)(r:c.w0.heap[b]? =some (.cells #[.int .i64 m,.int .i64 t.place,.string t.text,.int .i64 u.place,.string u.text] 397 (0,0))):
  Calls prog 288 #[.pointer (some ⟨c.fb,0,none⟩),.pointer (some ⟨b,0,none⟩)] w fun e w'=>e=.returned (.int .i64 (a6 c.T a t.text u.text))/\ ∃f,FA c F w g h i j a (bQ er (eA c.T a (dl t u))) w' f:=by
 cases d:ck a t.text with
 |none=>
  refine(xU c F w g h i l j a er q b m t u r d).mono ?_;rintro e w' ⟨rfl,f,n⟩;have o:a6 c.T a t.text u.text=0:=by unfold a6;rw[d]
  have p:eA c.T a (dl t u)=some (t.place,dY):=by
   unfold eA;rw[Jo (by rfl)]
   show(match ck a t.text with|none=>some (t.place,dY)|some s=>_)=_
   rw[d]
  rw[o,p];exact⟨rfl,f,n⟩
 |some k=>
  refine(xV c F w g h i l j a er q b m t u r k d _ rfl _ rfl).mono ?_;rintro e w' ⟨rfl,f,n⟩;have o:a6 c.T a t.text u.text=k.first+Lib.idxOfS (bh c.T k) u.text:=by unfold a6;rw[d]
  have p:eA c.T a (dl t u)=if Lib.idxOfS (bh c.T k) u.text<0 then some (u.place,eW)else none:=by
   unfold eA;rw[Jo (by rfl)]
   show(match ck a t.text with|none=>some (t.place,dY)|some s=>if Lib.idxOfS (bh c.T s) u.text<0 then some (u.place,eW)else none)=_
   rw[d]
  rw[o,p];exact⟨rfl,f,n⟩
theorem ET{c:Fc}{F:Fx}{w:World}{g h i j:Value}{f:Nat}{a:List Sr}{er:Option (Nat×Nat)}(k:FS c F w g h i j f a er){t u:Tk}(b:eA c.T a (dl t u)=none):0<=a6 c.T a t.text u.text/\a6 c.T a t.text u.text<f:=by
 have l:eA c.T a (dl t u)=match ck a t.text with|none=>some (t.place,dY)|some m=>if Lib.idxOfS (bh c.T m) u.text<0 then some (u.place,eW)else none:=by unfold eA;rw[Jo (by rfl)];rfl
 rw[l]at b
 cases e:ck a t.text with
 |none=>rw[e]at b;cases b
 |some d=>
  rw[e]at b;have n:d∈a:=List.mem_of_find?_eq_some e;have q:=k.wide.2.1 d n;have r:=p5 (bh c.T d) u.text;have s: ¬Lib.idxOfS (bh c.T d) u.text<0:=fun o=>by simp only[Jo o]at b;cases b
  have p:a6 c.T a t.text u.text=d.first+Lib.idxOfS (bh c.T d) u.text:=by unfold a6;rw[e]
  rw[p];omega
theorem Bp(n:Int):IntKind.i64.wrap n=wrap64 n:=by unfold wrap64;exact IntKind.wrap_i64 n
def eQ(d:World)(F:Fx)(n g:Nat)(e:Array Value)(f:List Int->Int):Prop:=sZ g/\ ∀(a:World) (c:Value) (b:List Int),gh d F a->b.length=n->aS a c (aE b)->Calls prog g (#[c]++e) a fun h i=>h=.returned (.int .i64 (f b))/\Below a.heap.size a i
theorem eQ.mono{a:World}{F b:Fx}{n g:Nat}{c:Array Value}{f:List Int->Int}(d:eQ a F n g c f)(e:F.le b):eQ a b n g c f:=⟨d.1,fun h i j k=>d.2 h i j (k.mono e)⟩
theorem Hv(d:World)(F:Fx)(n bx b:Nat)(t:Tk)(T:TypeId)(e:F bx=some (.cells #[.pointer (some ⟨b,0,none⟩)] T (0,0)))(a:d.heap[b]? =some (.cells #[.int .i64 t.place,.int .i64 t.value,.string t.text] 391 (0,0))):
  eQ d F n 286 #[.pointer (some ⟨bx,0,none⟩)] (fun _=>t.value):=by
 refine⟨enters_of func286 (by kernel_rfl) rfl,fun f h i c j g=>?_⟩;obtain⟨k,l⟩:=blk (c.new _ _ e);obtain⟨m,o⟩:=blk ((c.old.block b (aa a)).trans a);obtain⟨p,q,rfl,_,_⟩:=g;clear e a c
 show Calls prog 286 #[_,_] f _
 go_enter func286,ntmps286;go_wp2;go_ret;exact⟨rfl,Jj _ _⟩
theorem EU(c:World)(F:Fx)(n bx g:Nat)(d:Array Value)(f:List Int->Int)(T:TypeId)(e:F bx=some (.cells #[.func (.func g) #[] d] T (0,0)))(a:eQ c F n g d f):
  eQ c F n 287 #[.pointer (some ⟨bx,0,none⟩)] (fun r=>wrap64 (-(f r))):=by
 refine⟨enters_of func287 (by kernel_rfl) rfl,fun h m o b i j=>?_⟩;obtain⟨q,s⟩:=blk (b.new _ _ e);have t:=a.1;have k:=ab (a.2 h m o b i j);obtain⟨u,v,rfl,_,_⟩:=j;clear e a b i;rw[Jm]at k⊢
 show Calls prog 287 #[_,_] h _
 go_enter func287,ntmps287;go_wp2_with fail;refine k.mono ?_;rintro w x ⟨rfl,l⟩;have p:=ab l;clear l;go_wp2;go_ret;exact⟨rfl,p⟩
theorem Hw(j:World)(F:Fx)(n bx:Nat)(k:Int)(T:TypeId)(c:F bx=some (.cells #[.int .i64 k] T (0,0)))(p:0<=k/\k<n):
  eQ j F n 289 #[.pointer (some ⟨bx,0,none⟩)] (fun r=>r.getD k.toNat 0):=by
 refine⟨enters_of func289 (by kernel_rfl) rfl,fun d q e f s l=>?_⟩;obtain⟨t,u⟩:=blk (f.new _ _ c)
 obtain⟨a,rfl⟩: ∃a:Nat,k=a:=⟨k.toNat,by omega⟩
 have g:a<e.length:=by omega
 obtain⟨v,w,rfl,h,b⟩:=l;rw[Jm]at h b;obtain⟨m,o,rfl,x,i⟩:=b (by omega);have y:d.cell? ⟨m,o+a,none⟩=some (.int .i64 (e.getD a 0)):=by rw[i _ g,J7,JC,Jl g];rfl
 unfold maxLen at h;rw[Jm];clear c f i b
 show Calls prog 289 #[_,_] d _
 go_enter func289,ntmps289;go_wp2;go_ret;exact⟨by simp,Jj _ _⟩
theorem lL{c W W1:World}{F:Fx}{n g:Nat}{d:Array Value}{f:List Int->Int}(h:eQ c F n g d f)(i:gh c F W)(a:Below W.heap.size W W1){b:Value}{row:List Int}(j:row.length=n)(k:aS W b (aE row)):Calls prog g (#[b]++d) W1 fun e W'=>e=.returned (.int .i64 (f row))/\Below W.heap.size W W':=
 (h.2 W1 b row (i.below a) j (k.keep a)).mono fun _ _ ⟨l,m⟩=>⟨l,a.trans (m.mono a.size)⟩
theorem Hx(e:World)(F:Fx)(n bx d g h:Nat)(u i:Array Value)(f j:List Int->Int)(T:TypeId)(v:F bx=some (.cells #[.func (.func g) #[] u] T (0,0)))(k:F d=some (.cells #[.func (.func h) #[] i] T (0,0)))(l:eQ e F n g u f)(m:eQ e F n h i j):
  eQ e F n 320 #[.pointer (some ⟨bx,0,none⟩),.pointer (some ⟨d,0,none⟩)] (fun r=>wrap64 (f r+j r)):=by
 refine⟨enters_of func320 (by kernel_rfl) rfl,fun b J w a o q=>?_⟩;obtain⟨K,L⟩:=blk (a.new _ _ v);obtain⟨A,M⟩:=blk (a.new _ _ k);have B:=aa (a.new _ _ k);have N:=l.1;have O:=m.1;obtain⟨s,x⟩:=ag (fun W1 c=>lL l a (W1:=W1) c o q) (fun W1 c=>lL m a (W1:=W1) c o q);have C:Hid (∀W1,Below b.heap.size b W1->W1.cell? ⟨d,0,none⟩=some (.func (.func h) #[] i)):=fun W1 c=>by rw[c.cell (p:=⟨d,0,none⟩) B,A];rfl
 obtain⟨P,Q,rfl,_,_⟩:=q;clear v k l m a o;rw[Jm]at s x⊢
 show Calls prog 320 #[_,_,_] b _
 go_enter func320,ntmps320
 go_upto_region 1 with(fail)
 go_cut [4] (fun D W1=>D=.int .i64 (wrap64 (f w+j w))/\Below b.heap.size b W1)
 case first=>
  go_region_with (first
   |(refine(s _ (by exact(Jj _ _).drew)).mono ?_;clear s;rintro E R ⟨rfl,t⟩;have G:=ab t;have S:=(U C) _ t;clear t)
   |(refine((U x) _ (by exact G)).mono ?_;rintro E V ⟨rfl,y⟩;have H:=ab y;clear y))
  all_goals
   go_wp2_with fail;go_meet
   case rel=>exact⟨by rw[Bp],H⟩
 case rest=>obtain⟨rfl,z⟩:=hcut;have I:=ab z;clear z;go_wp2;go_ret;exact⟨rfl,I⟩
theorem Hy(e:World)(F:Fx)(n bx d g h:Nat)(u i:Array Value)(f j:List Int->Int)(T:TypeId)(v:F bx=some (.cells #[.func (.func g) #[] u] T (0,0)))(k:F d=some (.cells #[.func (.func h) #[] i] T (0,0)))(l:eQ e F n g u f)(m:eQ e F n h i j):
  eQ e F n 321 #[.pointer (some ⟨bx,0,none⟩),.pointer (some ⟨d,0,none⟩)] (fun r=>wrap64 (f r-j r)):=by
 refine⟨enters_of func321 (by kernel_rfl) rfl,fun b J w a o q=>?_⟩;obtain⟨K,L⟩:=blk (a.new _ _ v);obtain⟨A,M⟩:=blk (a.new _ _ k);have B:=aa (a.new _ _ k);have N:=l.1;have O:=m.1;obtain⟨s,x⟩:=ag (fun W1 c=>lL l a (W1:=W1) c o q) (fun W1 c=>lL m a (W1:=W1) c o q);have C:Hid (∀W1,Below b.heap.size b W1->W1.cell? ⟨d,0,none⟩=some (.func (.func h) #[] i)):=fun W1 c=>by rw[c.cell (p:=⟨d,0,none⟩) B,A];rfl
 obtain⟨P,Q,rfl,_,_⟩:=q;clear v k l m a o;rw[Jm]at s x⊢
 show Calls prog 321 #[_,_,_] b _
 go_enter func321,ntmps321
 go_upto_region 1 with(fail)
 go_cut [4] (fun D W1=>D=.int .i64 (wrap64 (f w-j w))/\Below b.heap.size b W1)
 case first=>
  go_region_with (first
   |(refine(s _ (by exact(Jj _ _).drew)).mono ?_;clear s;rintro E R ⟨rfl,t⟩;have G:=ab t;have S:=(U C) _ t;clear t)
   |(refine((U x) _ (by exact G)).mono ?_;rintro E V ⟨rfl,y⟩;have H:=ab y;clear y))
  all_goals
   go_wp2_with fail;go_meet
   case rel=>exact⟨by rw[Bp],H⟩
 case rest=>obtain⟨rfl,z⟩:=hcut;have I:=ab z;clear z;go_wp2;go_ret;exact⟨rfl,I⟩
theorem Hz(e:World)(F:Fx)(n bx d g h:Nat)(u i:Array Value)(f j:List Int->Int)(T:TypeId)(v:F bx=some (.cells #[.func (.func g) #[] u] T (0,0)))(k:F d=some (.cells #[.func (.func h) #[] i] T (0,0)))(l:eQ e F n g u f)(m:eQ e F n h i j):
  eQ e F n 322 #[.pointer (some ⟨bx,0,none⟩),.pointer (some ⟨d,0,none⟩)] (fun r=>wrap64 (f r*j r)):=by
 refine⟨enters_of func322 (by kernel_rfl) rfl,fun b J w a o q=>?_⟩;obtain⟨K,L⟩:=blk (a.new _ _ v);obtain⟨A,M⟩:=blk (a.new _ _ k);have B:=aa (a.new _ _ k);have N:=l.1;have O:=m.1;obtain⟨s,x⟩:=ag (fun W1 c=>lL l a (W1:=W1) c o q) (fun W1 c=>lL m a (W1:=W1) c o q);have C:Hid (∀W1,Below b.heap.size b W1->W1.cell? ⟨d,0,none⟩=some (.func (.func h) #[] i)):=fun W1 c=>by rw[c.cell (p:=⟨d,0,none⟩) B,A];rfl
 obtain⟨P,Q,rfl,_,_⟩:=q;clear v k l m a o;rw[Jm]at s x⊢
 show Calls prog 322 #[_,_,_] b _
 go_enter func322,ntmps322
 go_upto_region 1 with(fail)
 go_cut [4] (fun D W1=>D=.int .i64 (wrap64 (f w*j w))/\Below b.heap.size b W1)
 case first=>
  go_region_with (first
   |(refine(s _ (by exact(Jj _ _).drew)).mono ?_;clear s;rintro E R ⟨rfl,t⟩;have G:=ab t;have S:=(U C) _ t;clear t)
   |(refine((U x) _ (by exact G)).mono ?_;rintro E V ⟨rfl,y⟩;have H:=ab y;clear y))
  all_goals
   go_wp2_with fail;go_meet
   case rel=>exact⟨by rw[Bp],H⟩
 case rest=>obtain⟨rfl,z⟩:=hcut;have I:=ab z;clear z;go_wp2;go_ret;exact⟨rfl,I⟩
theorem mj(b:Fn)(f c:Array Value)(a:Addr)(m:Mode)(w:World):(store a (.func b f c) m).run prog w=stored prog w a (.func b f c) m:=run_store prog w a _ m rfl
def jR(c:Fc)(n:Nat):Prop:= ∀(g:Value) (b:List Nd) (h:Fx) (d:World) (i j k q:Value) (e:Nat) (a:List Sr) (l f:Option (Nat×Nat)),bC c.w0 (fun _=>True) n g b->FS c h d i j k q e a l->Hid (f=bQ l (cw c.T a b))->
 Calls prog 247 #[.pointer (some ⟨c.fb,0,none⟩),g] d fun r s=> ∃m o,r=.returned (.func (.func m) #[] o)/\ ∃p,FA c h d i j k e a f s p/\(f=none->eQ c.w0 (p.off c.X) e m o (dm (a6 c.T a) b))
theorem FA.fix{c:Fc}{F a:Fx}{w w':World}{f g h:Value}{i:Nat}{j:List Sr}{er':Option (Nat×Nat)}(l:FA c F w f g h i j er' w' a){b:Nat}{o:Obj}(m:b=w'.heap.size):
  FA c F w f g h i j er' (w'.alloc o) (a.set b o)/\(a.set b o).off c.X b=some o/\(a.off c.X).le ((a.set b o).off c.X):=by
 subst m;obtain⟨p,k,q,d⟩:=l;have e:a w'.heap.size=none:=d.grow.noneF (Ji _)
 have r:c.X w'.heap.size=false:=by
  cases s:c.X w'.heap.size with
  |false=>rfl
  |true=>have:=d.fbX _ s;omega
 refine⟨⟨p.trans (kY.set (n:=w'.heap.size) o (Ji _) e) k.size,k.alloc o,q,(d.alloc o).fixNew d (af rfl) (Ji _) e⟩,Fx.off_some (Fx.set_same _ _ _) r,Fx.off_mono (Fx.le_set o e) c.X⟩
theorem CS(c:Fc)(F:Fx)(W:World)(d f h j:Value)(a:Nat)(i:List Sr)(er:Option (Nat×Nat))(k:FS c F W d f h j a i er)(b:Nat)(t:Tk)(l:c.w0.heap[b]? =some (.cells #[.int .i64 t.place,.int .i64 t.value,.string t.text] 391 (0,0))):
  Calls prog 247 #[.pointer (some ⟨c.fb,0,none⟩),.iface 386 (.pointer (some ⟨b,0,none⟩))] W fun e W'=> ∃g m,e=.returned (.func (.func g) #[] m)/\ ∃n,FA c F W d f h a i er W' n/\eQ c.w0 (n.off c.X) a g m (fun _=>t.value):=by
 obtain⟨s,u⟩:=ag k l;have x:=Bb;have y: ∀(p:Fn) (first q:Array Value) (r:World),(Instr.makeFunc p first q).run prog r=.ok (.func p first q) r:=fun _ _ _ _=>rfl;clear k l;go_enter func247,ntmps247;go_wp2;go_ret;obtain⟨v,w,z⟩:=FA.fix (⟨kY.refl _ _,Kp.refl _ _,j,s⟩:FA c F W d f h a i er W F) (o:=.cells #[.pointer (some ⟨b,0,none⟩)] 386) rfl;exact⟨_,_,rfl,_,v,Hv _ _ _ _ _ _ _ w u⟩
theorem zK(c:Fc)(n:Nat)(D:Hid (jR c n))(F:Fx)(W:World)(j l m t:Value)(f:Nat)(d:List Sr)(er h:Option (Nat×Nat))(a:FS c F W j l m t f d er)(b:Nat)(p:Int)(x:Value)(k:List Nd)(q:c.w0.heap[b]? =some (.cells #[.int .i64 p,x] 394 (0,0)))(u:bC c.w0 (fun _=>True) n x k)(E:jQ x)(G:Hid (h=bQ er (cw c.T d k))):
  Calls prog 247 #[.pointer (some ⟨c.fb,0,none⟩),.iface 392 (.pointer (some ⟨b,0,none⟩))] W fun e W'=> ∃g i,e=.returned (.func (.func g) #[] i)/\ ∃v,FA c F W j l m f d h W' v/\(h=none->eQ c.w0 (v.off c.X) f g i (fun r=>wrap64 (-(dm (a6 c.T d) k r)))):=by
 have H:=ab a;have s:=(a.old.block b (aa q)).trans q;obtain⟨O,P⟩:=blk s;have Q:=aa s;have w:=ab u;have R:=sD;have S:=Cz;have T: ∀(y:Fn) (first z:Array Value) (A:World),(Instr.makeFunc y first z).run prog A=.ok (.func y first z) A:=fun _ _ _ _=>rfl;clear a q s u;have V:=mj;rcases E with rfl|⟨ui,vi,rfl⟩
 ·exact absurd w (fun a=>by cases n with|zero=>exact a|succ n=>rcases a with⟨_,_,a,_⟩|⟨_,_,_,_,a,_⟩|⟨_,_,_,a,_⟩|⟨_,_,_,_,a,_⟩|⟨_,_,_,_,_,_,_,a,_⟩<;>cases a)
 go_enter func247,ntmps247;go_wp2_with fail;refine(D _ k F _ j l m t f d er h (by exact w) (by exact H) G).mono ?_;rintro e X ⟨g,i,rfl,Y,B,C⟩;obtain⟨I,J⟩:=ag B C;clear B C;go_wp2;go_ret;obtain⟨K,L,M⟩:=FA.fix I (o:=.cells #[.func (.func g) #[] i] 426) rfl;exact⟨_,_,rfl,_,K,fun N=>EU _ _ _ _ _ _ _ _ L ((J N).mono M)⟩
theorem EV(c:Fc)(n:Nat)(y:Hid (jR c n))(F:Fx)(W:World)(i j l r:Value)(f:Nat)(d:List Sr)(er h:Option (Nat×Nat))(a:FS c F W i j l r f d er)(b:Nat)(p:Int)(x:Value)(k:List Nd)(m:c.w0.heap[b]? =some (.cells #[.int .i64 p,x] 399 (0,0)))(s:bC c.w0 (fun _=>True) n x k)(z:jQ x)(A:Hid (h=bQ er (cw c.T d k))):
  Calls prog 247 #[.pointer (some ⟨c.fb,0,none⟩),.iface 398 (.pointer (some ⟨b,0,none⟩))] W fun e W'=> ∃g o,e=.returned (.func (.func g) #[] o)/\ ∃t,FA c F W i j l f d h W' t/\(h=none->eQ c.w0 (t.off c.X) f g o (dm (a6 c.T d) k)):=by
 have B:=ab a;have q:=(a.old.block b (aa m)).trans m;obtain⟨E,G⟩:=blk q;have H:=aa q;have u:=ab s;have I:=qX;have J:=rO;have K:=qY;have L:=zF;clear a m q s;rcases z with rfl|⟨ui,vi,rfl⟩
 ·exact absurd u (fun a=>by cases n with|zero=>exact a|succ n=>rcases a with⟨_,_,a,_⟩|⟨_,_,_,_,a,_⟩|⟨_,_,_,a,_⟩|⟨_,_,_,_,a,_⟩|⟨_,_,_,_,_,_,_,a,_⟩<;>cases a)
 go_enter func247,ntmps247;go_wp2_with fail;refine(y _ k F _ i j l r f d er h (by exact u) (by exact B) A).mono ?_;rintro e M ⟨g,o,rfl,N,v,w⟩;obtain⟨C,D⟩:=ag v w;clear v w;go_wp2;go_ret;exact⟨_,_,rfl,_,C,D⟩
theorem CT(c:Fc)(F:Fx)(W:World)(i j k n:Value)(a:Nat)(d:List Sr)(er h:Option (Nat×Nat))(l:FS c F W i j k n a d er)(b:Nat)(p:Int)(t u:Tk)(q:c.w0.heap[b]? =some (.cells #[.int .i64 p,.int .i64 t.place,.string t.text,.int .i64 u.place,.string u.text] 397 (0,0)))(s:Hid (h=bQ er (eA c.T d (dl t u))))(f:Int)(v:Hid (f=a6 c.T d t.text u.text)):
  Calls prog 247 #[.pointer (some ⟨c.fb,0,none⟩),.iface 395 (.pointer (some ⟨b,0,none⟩))] W fun e W'=> ∃g w,e=.returned (.func (.func g) #[] w)/\ ∃x,FA c F W i j k a d h W' x/\(h=none->eQ c.w0 (x.off c.X) a g w (fun r=>r.getD f.toNat 0)):=by
 obtain⟨C,D⟩:=ag l q;have J:=rN;have K:=sE;have L:=Bc;have M: ∀(y:Fn) (first z:Array Value) (A:World),(Instr.makeFunc y first z).run prog A=.ok (.func y first z) A:=fun _ _ _ _=>rfl;have E:Hid (h=none->0<=f/\f<a):=fun m=>by rw[U v];exact ET l (dZ (s.symm.trans m)).2
 clear l q;go_enter func247,ntmps247;go_wp2_with fail;refine(zJ c F _ i j k n a d er (by exact C) b p t u D).mono ?_;rw[<-U s,<-U v];rintro e N ⟨rfl,O,B⟩;have G:=ab B;clear B;go_wp2;go_ret;obtain⟨H,I,P⟩:=FA.fix G (o:=.cells #[.int .i64 f] 3) rfl;exact⟨_,_,rfl,_,H,fun m=>Hw _ _ _ _ _ _ I (E m)⟩
end
end Go.Proofs.YtfkeddkfegaeiaaGreatDoor
