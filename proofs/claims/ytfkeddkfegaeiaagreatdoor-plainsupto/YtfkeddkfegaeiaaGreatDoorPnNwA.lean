import Derived.Test.YtfkeddkfegaeiaaGreatDoorPnLin
set_option maxRecDepth 100000
set_option maxHeartbeats 20000000
namespace Go.Proofs.YtfkeddkfegaeiaaGreatDoor
section
open Go.RowKit Tryz
def dV(l:List UInt8):Bool:=decide (0<l.length)&&decide (l.length<=8)&&l.all (fun a=>aq a.toNat)&& !dU l
theorem mV{l:List UInt8}(a:l.length<1∨8<l.length∨dU l=true):dV l=false:=by
 unfold dV;rcases a with a|a|a
 ·rw[LY (by omega)];rfl
 ·rw[show decide (l.length<=8)=false from LY (by omega),Li];rfl
 ·rw[a,Bool.not_true,Li]
theorem ru(s:ByteArray)(w:World):
  Calls prog 118 #[.string s] w fun e w'=>e=.returned (.bool (dV s.data.toList))/\Below w.heap.size w w':=by
 have o:s.data.toList.length=s.size:=by rw[JP];rfl
 go_enter func118,ntmps118;go_wp2_with fail;refine(nI _).mono ?_;rintro e x ⟨rfl,p,q⟩;obtain⟨y,c⟩:=ag p q;clear p q;go_wp2_with fail;refine(fE s _ _ gC (by exact y) (by decide)).mono ?_;rintro e M ⟨rfl,z⟩;obtain rfl:=z.symm;rw[o0]
 cases i:dU s.data.toList with
 |true=>
  have d:=ab (mV (Or.inr (Or.inr i)));by_cases A:s.size<1
  ·have j:decide ((s.size:Int)<1)=true:=by simp;omega
   go_wp2;go_ret;exact⟨by rw[U d];rfl,c⟩
  ·have j:decide ((s.size:Int)<1)=false:=by simp;omega
   by_cases B:8<s.size
   ·have k:decide ((8:Int)<(s.size:Int))=true:=by simp;omega
    go_wp2;go_ret;exact⟨by rw[U d];rfl,c⟩
   ·have k:decide ((8:Int)<(s.size:Int))=false:=by simp;omega
    go_wp2;go_ret;exact⟨by rw[U d];rfl,c⟩
 |false=>
  by_cases A:s.size<1
  ·have j:decide ((s.size:Int)<1)=true:=by simp;omega
   have d:=ab (mV (l:=s.data.toList) (Or.inl (by omega)));go_wp2;go_ret;exact⟨by rw[U d];rfl,c⟩
  ·have j:decide ((s.size:Int)<1)=false:=by simp;omega
   by_cases B:8<s.size
   ·have k:decide ((8:Int)<(s.size:Int))=true:=by simp;omega
    have d:=ab (mV (l:=s.data.toList) (Or.inr (Or.inl (by omega))));go_wp2;go_ret;exact⟨by rw[U d];rfl,c⟩
   ·have k:decide ((8:Int)<(s.size:Int))=false:=by simp;omega
    have C:=ab i;clear i;go_wp2_with fail
    go_loopg [4] s.size (fun D E F=> ∃a b,s.data.toList=a++b/\D=b.length/\E=.int .i64 (a.length:Nat)/\a.all (fun f=>aq f.toNat)=true/\F=x)
    case atStart=>exact⟨[],s.data.toList,rfl,o.symm,rfl,rfl,rfl⟩
    case round=>
     obtain⟨a,b,m,rfl,rfl,r,rfl⟩:=hrel;have t:a.length+b.length=s.size:=by rw[<-o,m,Jk]
     obtain⟨u,g⟩:=ag r m;clear r m
     cases b with
     |nil=>
      have G:decide (a.length<s.size)=false:=by simp at t⊢;omega
      go_wp2;go_ret;refine⟨?_,c⟩;have e:s.data.toList=a:=by rw[U g,JD]
      rw[e];unfold dV;rw[U u,<-e,C,Ko (by omega),Ko (by omega)];rfl
     |cons f b=>
      rw[Ju]at t;have G:decide (a.length<s.size)=true:=by simp;omega
      have H:a.length<s.size:=by omega
      have I:=AG g H;go_wp2_with fail;refine(cY _ _).mono ?_;rintro e N ⟨rfl,J⟩;obtain rfl:=J.symm;have v:s.data.toList=(a++[f])++b:=by rw[U g];simp
      have K:=ab v;clear I v
      cases h:aq (f.toNat:Int)with
      |false=>
       have n:=ab h;clear h;go_wp2;go_ret;refine⟨?_,c⟩;have L:dV s.data.toList=false:=by unfold dV;rw[U g,Ld,LI,n,Bool.false_and,Li,Li];rfl
       rw[L];rfl
      |true=>
       have n:=ab h;clear h;go_wp2;go_roundg b.length
       case measure=>simp
       case rel=>exact⟨a++[f],b,K,rfl,by rw[Jk];go_num,by rw[Ld,u,LI,U n];rfl,rfl⟩
theorem uz(l:List UInt8):(l.take (aY aq l)==l)=l.all (fun c=>aq c.toNat):=by
 rw[KY,KD,LS];have d:l.take (aY aq l)=l.takeWhile (fun c=>aq c.toNat):=by unfold aY;exact(Lk.1 (Lx _)).symm
 rw[d]
 constructor
 ·intro a c b;rw[<-a]at b;have:=List.all_takeWhile (p:=fun c=>aq (UInt8.toNat c)) (l:=l);rw[LS]at this;exact this c b
 ·intro a
  induction l with
  |nil=>rfl
  |cons e g f=>rw[KH,Jo (a e JK),f (by unfold aY;exact(Lk.1 (Lx _)).symm) (fun c b=>a c (KQ _ b))]
theorem sR(s:ByteArray)(w:World):
  Calls prog 135 #[.string s] w fun e w'=>e=.returned (.bool (dV s.data.toList))/\w'=w:=by
 have j:s.data.toList.length=s.size:=by rw[JP];rfl
 have c:(s.toList== [])=decide (s.size=0):=by rw[KY,KD,JQ,JA,<-j,List.length_eq_zero_iff]
 by_cases g:s.size=0
 ·have k:(s.toList== [])=true:=by rw[c];simp[g]
  have a:=ab (mV (l:=s.data.toList) (Or.inl (by omega)));clear c;go_enter func135,ntmps135;go_wp2;go_ret;exact⟨by rw[U a];rfl,rfl⟩
 ·have k:(s.toList== [])=false:=by rw[c];simp[g]
  clear c;by_cases o:s.size<=8
  ·have m:decide ((s.size:Int)<=8)=true:=by simp;omega
   have h:=uz s.data.toList;have hcut:(s.extract 0 (aY aq s.data.toList)).toList=s.data.toList.take (aY aq s.data.toList):=by rw[JA,Kx,KP];simp
   go_enter func135,ntmps135;go_wp2_with fail;refine(iS s _ (by unfold maxLen;omega)).mono ?_;rintro e n ⟨rfl,d⟩;obtain rfl:=d.symm;have i:((s.extract 0 (aY aq s.data.toList)).toList==s.toList)=s.data.toList.all (fun f=>aq f.toNat):=by rw[hcut,JA,h]
   clear hcut h;generalize s.extract 0 (aY aq s.data.toList)=p at*
   cases b:s.data.toList.all (fun f=>aq f.toNat)with
   |false=>
    rw[b]at i;have a:Hid (dV s.data.toList=false):=by unfold Hid dV;rw[b,Li];rfl
    clear b;go_wp2;go_ret;exact⟨by rw[U a];rfl,rfl⟩
   |true=>
    rw[b]at i;have a:Hid (dV s.data.toList= !dU s.data.toList):=by unfold Hid dV;rw[b,Ko (by omega),Ko (by omega)];rfl
    clear b;go_wp2_with fail;refine(mf s _).mono ?_;rintro e n ⟨rfl,d⟩;obtain rfl:=d.symm;generalize dU s.data.toList=q at*;go_wp2;go_ret;exact⟨by rw[U a];rfl,rfl⟩
  ·have m:decide ((s.size:Int)<=8)=false:=by simp;omega
   have a:=ab (mV (l:=s.data.toList) (Or.inr (Or.inl (by omega))));go_enter func135,ntmps135;go_wp2;go_ret;exact⟨by rw[U a];rfl,rfl⟩
def aS(W:World)(v:Value)(xs:List Value):Prop:= ∃c e,v=.slice c xs.length e/\xs.length<=maxLen/\(0<xs.length-> ∃a d,c=some ⟨a,d,none⟩/\a<W.heap.size/\ ∀b,b<xs.length->W.cell? ⟨a,d+b,none⟩=xs[b]?)
theorem aS.keep{W W':World}{v:Value}{xs:List Value}(f:aS W v xs)(a:Below W.heap.size W W'):aS W' v xs:=by obtain⟨g,h,i,j,k⟩:=f;refine⟨g,h,i,j,fun l=>?_⟩;obtain⟨b,c,m,d,n⟩:=k l;exact⟨b,c,m,Js d a.size,fun e o=>by rw[a.cell (p:=⟨b,c+e,none⟩) d];exact n e o⟩
abbrev aE(zs:List Int):List Value:=zs.map (Value.int .i64)
abbrev aB(ts:List ByteArray):List Value:=ts.map Value.string
theorem kE(a b:Value)(c f:List Int)(w:World)(I:aS w a (aE c))(J:aS w b (aE f)):
  Calls prog 45 #[a,b] w fun e w'=>e=.returned (.bool (decide (c=f)))/\Below w.heap.size w w':=by
 obtain⟨Y,Z,rfl,y,l⟩:=I;obtain⟨ac,ad,rfl,z,m⟩:=J;rw[Jm]at y z l m;unfold maxLen at y z;simp only[Jm];by_cases i:c.length=f.length
 ·have K:((c.length:Int) !=(f.length:Int))=false:=by rw[i];simp
  have s:=ab i;clear i;obtain⟨L,M⟩:=ag l m;clear l m;go_enter func45,ntmps45;go_wp2_with fail
  go_loopg [5] c.length (fun N O P=> ∃d g h,c=d++g/\f=d++h/\N=g.length/\O=.int .i64 (d.length:Nat)/\Below w.heap.size w P)
  case atStart=>exact⟨[],c,f,rfl,rfl,rfl,rfl,Jj _ _⟩
  case round=>
   obtain⟨d,g,h,t,u,rfl,rfl,A⟩:=hrel;obtain⟨j,n,o⟩:=aC A t u;have q:d.length+g.length=c.length:=by rw[t,Jk]
   have B:d.length+h.length=f.length:=by rw[u,Jk]
   clear t u A
   cases g with
   |nil=>
    have Q:decide (d.length<c.length)=false:=by simp at q⊢;omega
    go_wp2;go_ret;have R:h=[]:=by apply KL;have:=U s;simp at q;omega
    have e:decide (c=f)=true:=by rw[U n,o,R];simp
    rw[e];exact⟨rfl,j⟩
   |cons k g=>
    cases h with
    |nil=>exfalso;have:=U s;simp at q B;omega
    |cons r h=>
     rw[Ju]at q B;have Q:decide (d.length<c.length)=true:=by simp;omega
     obtain⟨C,D,rfl,S,E⟩:=(U L) (by omega)
     obtain⟨F,G,rfl,T,H⟩:=(U M) (by have:=U s;omega)
     have ae:wr.cell? ⟨C,D+d.length,none⟩=some (.int .i64 k):=by rw[j.cell (p:=⟨C,D+d.length,none⟩) S,E _ (by omega),U n];simp
     have aj:wr.cell? ⟨F,G+d.length,none⟩=some (.int .i64 r):=by rw[j.cell (p:=⟨F,G+d.length,none⟩) T,H _ (by omega),U o];simp
     have V:Hid (c=(d++[k])++g):=by unfold Hid;rw[U n];simp
     have W:Hid (f=(d++[r])++h):=by unfold Hid;rw[U o];simp
     clear E H
     cases v:(k !=r)with
     |true=>
      have x:Hid (decide (c=f)=false):=by unfold Hid;rw[Ku,n,U o];intro e;have:=Mm e;simp at this v;exact v this.1
      go_wp2
      go_region
      go_wp2;go_ret;rw[U x];exact⟨rfl,j.drew⟩
     |false=>
      have X:k=r:=by simpa using v
      go_wp2
      go_region
      go_wp2;go_roundg g.length
      case measure=>simp
      case rel=>
       refine⟨d++[k],g,h,V,by rw[X];exact U W,rfl,?_,j.drew⟩;rw[Jk]
       go_num
 ·have K:((c.length:Int) !=(f.length:Int))=true:=by
   rw[KZ];intro e;exact i (by exact_mod_cast e)
  have x:Hid (decide (c=f)=false):=by unfold Hid;rw[Ku];intro e;exact i (by rw[e])
  clear l m;go_enter func45,ntmps45;go_wp2;go_ret;rw[U x];exact⟨rfl,Jj _ _⟩
theorem lW(a b:Value)(c f:List ByteArray)(w:World)(I:aS w a (aB c))(J:aS w b (aB f)):
  Calls prog 53 #[a,b] w fun e w'=>e=.returned (.bool (decide (c=f)))/\Below w.heap.size w w':=by
 obtain⟨Z,ac,rfl,y,m⟩:=I;obtain⟨ad,ae,rfl,z,n⟩:=J;rw[Jm]at y z m n;unfold maxLen at y z;simp only[Jm];by_cases j:c.length=f.length
 ·have K:((c.length:Int) !=(f.length:Int))=false:=by rw[j];simp
  have t:=ab j;clear j;obtain⟨L,M⟩:=ag m n;clear m n;go_enter func53,ntmps53;go_wp2_with fail
  go_loopg [5] c.length (fun N O P=> ∃d g h,c=d++g/\f=d++h/\N=g.length/\O=.int .i64 (d.length:Nat)/\Below w.heap.size w P)
  case atStart=>exact⟨[],c,f,rfl,rfl,rfl,rfl,Jj _ _⟩
  case round=>
   obtain⟨d,g,h,u,v,rfl,rfl,A⟩:=hrel;obtain⟨k,o,q⟩:=aC A u v;have r:d.length+g.length=c.length:=by rw[u,Jk]
   have B:d.length+h.length=f.length:=by rw[v,Jk]
   clear u v A
   cases g with
   |nil=>
    have Q:decide (d.length<c.length)=false:=by simp at r⊢;omega
    go_wp2;go_ret;have R:h=[]:=by apply KL;have:=U t;simp at r;omega
    have e:decide (c=f)=true:=by rw[U o,q,R];simp
    rw[e];exact⟨rfl,k⟩
   |cons i g=>
    cases h with
    |nil=>exfalso;have:=U t;simp at r B;omega
    |cons l h=>
     rw[Ju]at r B;have Q:decide (d.length<c.length)=true:=by simp;omega
     obtain⟨C,D,rfl,S,E⟩:=(U L) (by omega)
     obtain⟨F,G,rfl,T,H⟩:=(U M) (by have:=U t;omega)
     have aj:wr.cell? ⟨C,D+d.length,none⟩=some (.string i):=by rw[k.cell (p:=⟨C,D+d.length,none⟩) S,E _ (by omega),U o];simp
     have ak:wr.cell? ⟨F,G+d.length,none⟩=some (.string l):=by rw[k.cell (p:=⟨F,G+d.length,none⟩) T,H _ (by omega),U q];simp
     have V:Hid (c=(d++[i])++g):=by unfold Hid;rw[U o];simp
     have W:Hid (f=(d++[l])++h):=by unfold Hid;rw[U q];simp
     clear E H
     cases s:(i.toList==l.toList)with
     |false=>
      have x:Hid (decide (c=f)=false):=by
       unfold Hid;rw[Ku,o,U q];intro e;have:=Mm e;have X:i=l:=by injection this
       rw[X]at s;simp at s
      go_wp2
      go_region
      go_wp2;go_ret;rw[U x];exact⟨rfl,k.drew⟩
     |true=>
      have Y:i=l:=by rw[KD,JA,JA]at s;exact J5 s
      go_wp2
      go_region
      go_wp2;go_roundg g.length
      case measure=>simp
      case rel=>
       refine⟨d++[i],g,h,V,by rw[Y];exact U W,rfl,?_,k.drew⟩;rw[Jk]
       go_num
 ·have K:((c.length:Int) !=(f.length:Int))=true:=by
   rw[KZ];intro e;exact j (by exact_mod_cast e)
  have x:Hid (decide (c=f)=false):=by unfold Hid;rw[Ku];intro e;exact j (by rw[e])
  clear m n;go_enter func53,ntmps53;go_wp2;go_ret;rw[U x];exact⟨rfl,Jj _ _⟩
theorem mW{pre:List ByteArray}{s:ByteArray}(a: ¬s∈pre): ∀(suf:List ByteArray) (i:Nat),Lib.idxFromS (pre++suf) s i=Lib.idxFromS suf s (i+pre.length):=by
 induction pre with
 |nil=>intro suf i;rfl
 |cons b g c=>
  intro suf i;have d: ¬b=s:=fun e=>a (by rw[e];exact JK);rw[KS,Lib.idxFromS,Jn d,c (fun f=>a (KQ _ f)),Ju]
  congr 1
  omega
theorem lJ(a:Value)(ts:List ByteArray)(s:ByteArray)(w:World)(p:aS w a (aB ts)):
  Calls prog 85 #[a,.string s] w fun e w'=>e=.returned (.int .i64 (Lib.idxOfS ts s))/\w'=w:=by
 obtain⟨G,H,rfl,k,h⟩:=p;rw[Jm]at k h;unfold maxLen at k;simp only[Jm];have r:=ab h;clear h;go_enter func85,ntmps85;go_wp2_with fail
 go_loopg [5] ts.length (fun t u v=> ∃b c,ts=b++c/\ ¬s∈b/\t=c.length/\u=.int .i64 (b.length:Nat)/\v=w)
 case atStart=>exact⟨[],ts,rfl,(fun x=>by cases x),rfl,rfl,rfl⟩
 case round=>
  obtain⟨b,c,i,l,rfl,rfl,y⟩:=hrel;obtain rfl:=y.symm;have m:b.length+c.length=ts.length:=by rw[i,Jk]
  obtain⟨f,j⟩:=ag i l;clear i l
  cases c with
  |nil=>
   have z:decide (b.length<ts.length)=false:=by simp at m⊢;omega
   go_wp2;go_ret;refine⟨?_,rfl⟩;have e:Lib.idxOfS ts s= -1:=by unfold Lib.idxOfS;rw[U f,mW (U j)];rfl
   rw[e];rfl
  |cons d c=>
   rw[Ju]at m;have z:decide (b.length<ts.length)=true:=by simp;omega
   obtain⟨A,B,rfl,I,n⟩:=(U r) (by omega)
   have J:w.cell? ⟨A,B+b.length,none⟩=some (.string d):=by rw[n _ (by omega),U f];simp
   have C:Hid (ts=(b++[d])++c):=by unfold Hid;rw[U f];simp
   clear n
   cases g:(d.toList==s.toList)with
   |true=>
    have o:d=s:=by rw[KD,JA,JA]at g;exact J5 g
    have D:Hid (Lib.idxOfS ts s=b.length):=by unfold Hid Lib.idxOfS;rw[U f,mW (U j),Lib.idxFromS,Jo o];simp
    clear o;go_wp2;go_ret;exact⟨by rw[U D];rfl,rfl⟩
   |false=>
    have E:Hid (¬s∈b++[d]):=fun F=>by
     rcases JW.1 F with q|q
     ·exact j q
     ·rw[JN]at q;rw[q]at g;simp at g
    go_wp2;go_roundg c.length
    case measure=>simp
    case rel=>
     refine⟨b++[d],c,C,E,rfl,?_,rfl⟩;rw[Jk]
     go_num
theorem mw:(prog.info? 3).map (fun i=>(i.zero,i.size,i.bytes))=some (some (.int .i64 0),1,8):=by kernel_rfl
theorem Gq:(prog.info? 3).map (·.size)=some 1:=by kernel_rfl
theorem EO(a:List Int): ∀v∈aE a,v.oneCell'=true:=by intro v b;obtain⟨c,_,rfl⟩:=KM.1 b;rfl
theorem pX(a:Value)(b:List Int)(w:World)(u:aS w a (aE b))(hn:b.length<=17592186044000):
  Calls prog 74 #[a] w fun e w'=> ∃g,e=.returned (.slice (some ⟨g,0,none⟩) (b.length+8) (b.length+8))/\w.heap.size<=g/\w'.heap[g]? =some (.cells (aE (b++List.replicate 8 (-77))).toArray 3 (0,0))/\Below w.heap.size w w':=by
 obtain⟨X,v,x⟩:=Jq.1 mw;simp only[JB]at x;obtain⟨y,z,A⟩:=x;obtain⟨Y,Z,ac,ad⟩:=aP v y z A;clear v y z A;have aN:=ab u;obtain⟨ae,aR,rfl,B,m⟩:=u;rw[Jm]at B m;simp only[Jm];have aj:=ab m;clear m B;go_enter func74,ntmps74;go_wp2_with (at_make;refine KU _ rfl _ _ 32 rfl w.heap.size 3 X (.int .i64 0) 1 underlying32 Y Z ac .i64 .i64 _ _ (b.length+8) rfl rfl ?c1 ?c2 ?c3 ?c4 ?c5 ?_)
 case c1=>simp
 case c2=>simp
 case c3=>rw[U ad];omega
 case c4=>unfold maxLen;omega
 case c5=>exact Ji _
 intro n C D;rcases C.2 with⟨f,_⟩|⟨g,cap,cur,f,hge,h,c1,c2,c3,c4⟩
 ·cases f
 injection f with i ak al;injection i with i;injection i with i;subst i;have aT:cur.toList.length=b.length+8:=by rw[JP,c3];omega
 have E:Hid (n.heap[w.heap.size]? =some (.cells cur.toList.toArray 3 (0,0))):=by unfold Hid;rw[h]
 have o:Hid (Below w.heap.size w n):=(Jj _ _).grown D (Ji _) (fun aU e=>by cases e);clear C D h c1 c2 c3 c4 ak al hge;generalize cur.toList=j at*;have F:Hid ((aE b).length=Nat.min b.length (b.length+8)):=by unfold Hid;rw[Jm];exact(Le (by omega)).symm
 have G:Hid (0<(aE b).length->(some ⟨w.heap.size,0,none⟩:Option Addr)=some ⟨w.heap.size,0,none⟩/\ ∃H,ae=some H/\ ∀d q,(aE b)[d]? =some q->n.cell? (H.add d)=some q):=by
  intro I;rw[Jm]at I;obtain⟨r,s,an,ao,J⟩:=(U aj) I;refine⟨rfl,_,an,fun d q f=>?_⟩
  have ap:d<b.length:=by
   rcases J' d b.length with k|k
   ·exact k
   ·rw[Kj (by rw[Jm];exact k)]at f;cases f
  rw[show(Addr.add ⟨r,s,none⟩ d)=⟨r,s+d,none⟩from by unfold Addr.add;split<;>simp_all];rw[o.cell (p:=⟨r,s+d,none⟩) ao,J d ap];exact f
 have K:Hid (0+(aE b).length<=j.length):=by unfold Hid;rw[Jm];omega
 go_wp2_with (refine wpList_copy_splice rfl _ _ 32 32 rfl 3 underlying32 Gq _ _ _ _ _ _ rfl rfl w.heap.size 0 j 3 E (aE b) F G K (EO b) w.heap.size w o (Ji _) ?_;intro aV L M;have ar:=ab M;clear M);have N:splice j 0 (aE b)=aE b++(aE (List.replicate (8-8) (-77))++j.drop b.length):=by unfold splice;simp
 rw[N]at L;have au:(j.drop b.length).length=8:=by rw[J6];omega
 clear N F G K E o
 go_loopg [4] 8 (fun l av O=> ∃c:List Value,c.length=l/\l<=8/\av=.int .i64 ((b.length+(8-l):Nat):Int)/\O.heap[w.heap.size]? =some (.cells (aE b++(aE (List.replicate (8-l) (-77))++c)).toArray 3 (0,0))/\Below w.heap.size w O)
 case atStart=>exact⟨_,au,Ji _,by simp,L,ar⟩
 case round=>
  obtain⟨c,P,a0,rfl,h,Q⟩:=hrel;obtain⟨R,S⟩:=ag h Q;have a1:=aa h;obtain⟨T,a2⟩:=blk h;clear h Q
  cases c with
  |nil=>
   have ax:gk=0:=by rw[<-P];rfl
   subst ax;have ay:decide (b.length+(8-0)<b.length+8)=false:=by simp
   go_wp2;go_ret;refine⟨w.heap.size,rfl,Ji _,?_,S⟩;have:=U R;rw[JD]at this;rw[this];simp
  |cons V c=>
   have aA:gk=c.length+1:=by rw[<-P];rfl
   subst aA;have t:(aE b++aE (List.replicate (8-(c.length+1)) (-77))).length=b.length+(8-(c.length+1)):=by simp
   have J:wr.cell? ⟨w.heap.size,b.length+(8-(c.length+1)),none⟩=some V:=by rw[T,<-t,<-Kf];simp
   have aI:Hid ((aE b++(aE (List.replicate (8-(c.length+1)) (-77))++V::c)).toArray.setIfInBounds (b.length+(8-(c.length+1))) (.int .i64 (-77))=(aE b++(aE (List.replicate (8-c.length) (-77))++c)).toArray):=by unfold Hid;rw[<-t,<-Kf,JM,KC _ _ (Ji _),Kv,JX,show 8-c.length=(8-(c.length+1))+1 from by omega,LG];simp
   have W:b.length+(8-(c.length+1))+1=b.length+(8-c.length):=by omega
   have aJ:b.length+(8-(c.length+1))<b.length+8:=by omega
   have a3:b.length+(8-(c.length+1))<=17592186044008:=by omega
   clear t T;generalize b.length+(8-(c.length+1))=k at*;have ay:decide (k<b.length+8)=true:=by simpa using aJ
   have aL:=ab W;clear W;go_wp2;go_roundg c.length
   case measure=>simp
   case rel=>
    refine⟨c,rfl,by omega,?_,?_,S.setCell (by exact Ji _) _⟩
    ·rw[<-U aL]
     go_num
    ·rw[am (U R),U aI]
theorem lh:(prog.info? 9).map (fun i=>(i.zero,i.size,i.bytes))=some (some (.string ⟨#[]⟩),1,16):=by kernel_rfl
theorem Gr:(prog.info? 9).map (·.size)=some 1:=by kernel_rfl
theorem CQ(a:List ByteArray): ∀v∈aB a,v.oneCell'=true:=by intro v b;obtain⟨c,_,rfl⟩:=KM.1 b;rfl
theorem pC(a:Value)(b:List ByteArray)(w:World)(u:aS w a (aB b))(hn:b.length<=8796093022000):
  Calls prog 71 #[a] w fun e w'=> ∃g,e=.returned (.slice (some ⟨g,0,none⟩) (b.length+8) (b.length+8))/\w.heap.size<=g/\w'.heap[g]? =some (.cells (aB (b++List.replicate 8 ⟨#[98,101,121,111,110,100]⟩)).toArray 9 (0,0))/\Below w.heap.size w w':=by
 obtain⟨X,v,x⟩:=Jq.1 lh;simp only[JB]at x;obtain⟨y,z,A⟩:=x;obtain⟨Y,Z,ac,ad⟩:=aP v y z A;clear v y z A;have aN:=ab u;obtain⟨ae,aR,rfl,B,m⟩:=u;rw[Jm]at B m;simp only[Jm];have aj:=ab m;clear m B;go_enter func71,ntmps71;go_wp2_with (at_make;refine KU _ rfl _ _ 39 rfl w.heap.size 9 X (.string ⟨#[]⟩) 1 underlying39 Y Z ac .i64 .i64 _ _ (b.length+8) rfl rfl ?c1 ?c2 ?c3 ?c4 ?c5 ?_)
 case c1=>simp
 case c2=>simp
 case c3=>rw[U ad];omega
 case c4=>unfold maxLen;omega
 case c5=>exact Ji _
 intro n C D;rcases C.2 with⟨f,_⟩|⟨g,cap,cur,f,hge,h,c1,c2,c3,c4⟩
 ·cases f
 injection f with i ak al;injection i with i;injection i with i;subst i;have aT:cur.toList.length=b.length+8:=by rw[JP,c3];omega
 have E:Hid (n.heap[w.heap.size]? =some (.cells cur.toList.toArray 9 (0,0))):=by unfold Hid;rw[h]
 have o:Hid (Below w.heap.size w n):=(Jj _ _).grown D (Ji _) (fun aU e=>by cases e);clear C D h c1 c2 c3 c4 ak al hge;generalize cur.toList=j at*;have F:Hid ((aB b).length=Nat.min b.length (b.length+8)):=by unfold Hid;rw[Jm];exact(Le (by omega)).symm
 have G:Hid (0<(aB b).length->(some ⟨w.heap.size,0,none⟩:Option Addr)=some ⟨w.heap.size,0,none⟩/\ ∃H,ae=some H/\ ∀d q,(aB b)[d]? =some q->n.cell? (H.add d)=some q):=by
  intro I;rw[Jm]at I;obtain⟨r,s,an,ao,J⟩:=(U aj) I;refine⟨rfl,_,an,fun d q f=>?_⟩
  have ap:d<b.length:=by
   rcases J' d b.length with k|k
   ·exact k
   ·rw[Kj (by rw[Jm];exact k)]at f;cases f
  rw[show(Addr.add ⟨r,s,none⟩ d)=⟨r,s+d,none⟩from by unfold Addr.add;split<;>simp_all];rw[o.cell (p:=⟨r,s+d,none⟩) ao,J d ap];exact f
 have K:Hid (0+(aB b).length<=j.length):=by unfold Hid;rw[Jm];omega
 go_wp2_with (refine wpList_copy_splice rfl _ _ 39 39 rfl 9 underlying39 Gr _ _ _ _ _ _ rfl rfl w.heap.size 0 j 9 E (aB b) F G K (CQ b) w.heap.size w o (Ji _) ?_;intro aV L M;have ar:=ab M;clear M);have N:splice j 0 (aB b)=aB b++(aB (List.replicate (8-8) ⟨#[98,101,121,111,110,100]⟩)++j.drop b.length):=by unfold splice;simp
 rw[N]at L;have au:(j.drop b.length).length=8:=by rw[J6];omega
 clear N F G K E o
 go_loopg [4] 8 (fun l av O=> ∃c:List Value,c.length=l/\l<=8/\av=.int .i64 ((b.length+(8-l):Nat):Int)/\O.heap[w.heap.size]? =some (.cells (aB b++(aB (List.replicate (8-l) ⟨#[98,101,121,111,110,100]⟩)++c)).toArray 9 (0,0))/\Below w.heap.size w O)
 case atStart=>exact⟨_,au,Ji _,by simp,L,ar⟩
 case round=>
  obtain⟨c,P,a0,rfl,h,Q⟩:=hrel;obtain⟨R,S⟩:=ag h Q;have a1:=aa h;obtain⟨T,a2⟩:=blk h;clear h Q
  cases c with
  |nil=>
   have ax:gk=0:=by rw[<-P];rfl
   subst ax;have ay:decide (b.length+(8-0)<b.length+8)=false:=by simp
   go_wp2;go_ret;refine⟨w.heap.size,rfl,Ji _,?_,S⟩;have:=U R;rw[JD]at this;rw[this];simp
  |cons V c=>
   have aA:gk=c.length+1:=by rw[<-P];rfl
   subst aA;have t:(aB b++aB (List.replicate (8-(c.length+1)) ⟨#[98,101,121,111,110,100]⟩)).length=b.length+(8-(c.length+1)):=by simp
   have J:wr.cell? ⟨w.heap.size,b.length+(8-(c.length+1)),none⟩=some V:=by rw[T,<-t,<-Kf];simp
   have aI:Hid ((aB b++(aB (List.replicate (8-(c.length+1)) ⟨#[98,101,121,111,110,100]⟩)++V::c)).toArray.setIfInBounds (b.length+(8-(c.length+1))) (.string ⟨#[98,101,121,111,110,100]⟩)=(aB b++(aB (List.replicate (8-c.length) ⟨#[98,101,121,111,110,100]⟩)++c)).toArray):=by unfold Hid;rw[<-t,<-Kf,JM,KC _ _ (Ji _),Kv,JX,show 8-c.length=(8-(c.length+1))+1 from by omega,LG];simp
   have W:b.length+(8-(c.length+1))+1=b.length+(8-c.length):=by omega
   have aJ:b.length+(8-(c.length+1))<b.length+8:=by omega
   have a3:b.length+(8-(c.length+1))<=8796093022008:=by omega
   clear t T;generalize b.length+(8-(c.length+1))=k at*;have ay:decide (k<b.length+8)=true:=by simpa using aJ
   have aL:=ab W;clear W;go_wp2;go_roundg c.length
   case measure=>simp
   case rel=>
    refine⟨c,rfl,by omega,?_,?_,S.setCell (by exact Ji _) _⟩
    ·rw[<-U aL]
     go_num
    ·rw[am (U R),U aI]
structure Tb where
 name:ByteArray
 cols:List ByteArray
 rows:List (List Int)
def bZ(W:World)(v:Value)(rows:List (List Int)):Prop:= ∃a:List Value,aS W v a/\a.length=rows.length/\ ∀(b:Nat) (c:List Int) (d:Value),rows[b]? =some c->a[b]? =some d->aS W d (aE c)
theorem bZ.keep{W W':World}{v:Value}{rows:List (List Int)}(b:bZ W v rows)(a:Below W.heap.size W W'):bZ W' v rows:=by obtain⟨c,d,e,f⟩:=b;exact⟨c,d.keep a,e,fun g h i j k=>(f g h i j k).keep a⟩
def lX:Value->Nat
 |.slice _ _ c=>c
 |_=>0
def xK(W:World)(cs:List Value)(t:Tb):Prop:= ∃a b,cs=[.string t.name,a,b]/\aS W a (aB t.cols)/\t.cols.length<=lX a/\bZ W b t.rows
theorem xK.keep{W W':World}{cs:List Value}{t:Tb}(b:xK W cs t)(a:Below W.heap.size W W'):xK W' cs t:=by obtain⟨c,d,e,f,g,h⟩:=b;exact⟨c,d,e,f.keep a,g,h.keep a⟩
def bp(W:World)(v:Value)(l:List Tb):Prop:= ∃e f,v=.slice e l.length f/\l.length<=maxLen/\l.length<=f/\(0<l.length-> ∃a b,e=some ⟨a,b,none⟩/\a<W.heap.size/\ ∀(c:Nat) (d:Tb),l[c]? =some d-> ∃g h,xK W [.string d.name,g,h] d/\W.cell? ⟨a,b+c*3,none⟩=some (.string d.name)/\W.cell? ⟨a,b+c*3+1,none⟩=some g/\W.cell? ⟨a,b+c*3+2,none⟩=some h)
theorem bp.keep{W W':World}{v:Value}{l:List Tb}(f:bp W v l)(a:Below W.heap.size W W'):bp W' v l:=by obtain⟨g,h,i,j,k,m⟩:=f;refine⟨g,h,i,j,k,fun n=>?_⟩;obtain⟨b,c,o,d,q⟩:=m n;refine⟨b,c,o,Js d a.size,fun e r s=>?_⟩;obtain⟨t,u,w,x,y,z⟩:=q e r s;exact⟨t,u,w.keep a,by rw[a.cell (p:=⟨b,c+e*3,none⟩) d];exact x,by rw[a.cell (p:=⟨b,c+e*3+1,none⟩) d];exact y,by rw[a.cell (p:=⟨b,c+e*3+2,none⟩) d];exact z⟩
theorem bp.ahead{W:World}{a:Option Addr}{n cap:Nat}{pre suf:List Tb}(e:bp W (.slice a n cap) (pre++suf)):bp W (.slice a pre.length cap) pre:=by
 obtain⟨s,t,f,g,h,d⟩:=e;injection f with i u j;subst i j;rw[Jk]at g h d;refine⟨a,cap,rfl,by omega,by omega,fun v=>?_⟩;obtain⟨k,l,m,o,p⟩:=d (by omega);refine⟨k,l,m,o,fun b q c=>p b q ?_⟩
 have r:b<pre.length:=by
  rcases J' b pre.length with h'|h'
  ·exact h'
  ·rw[Kj h']at c;cases c
 rw[Jz r];exact c
def jL:List ByteArray->List ByteArray->Bool
 |_,[]=>false
 |pre,a::r=>Lib.containsS pre a||jL (pre++[a]) r
def p6(t:Tb)(ahead:List Tb):Int:=
 if !dV t.name.data.toList||t.cols.any (fun c=> !dV c.data.toList)then 4
 else if decide (t.cols.length<1)||decide (6<t.cols.length)||decide (200<t.rows.length)then 9
 else if ahead.any (fun u=>u.name.toList==t.name.toList)||jL [] t.cols then 7
 else if t.rows.any (fun r=>decide (r.length≠t.cols.length))then 10
 else 0
def dR:List Tb->List Tb->Int
 |_,[]=>0
 |pre,t::r=>if p6 t pre=0 then dR (pre++[t]) r else p6 t pre
def bT(l:List Tb):Int:=if 4<l.length then 9 else dR [] l
abbrev Fx:=Nat->Option Obj
def Fx.le(F c:Fx):Prop:= ∀a b,F a=some b->c a=some b
theorem Fx.le.refl(F:Fx):F.le F:=fun _ _ a=>a
theorem Fx.le.trans{F a b:Fx}(e:F.le a)(k:a.le b):F.le b:=fun c d f=>k c d (e c d f)
def Fx.set(F:Fx)(b:Nat)(o:Obj):Fx:=fun a=>if a=b then some o else F a
theorem Fx.set_same(F:Fx)(b:Nat)(o:Obj):F.set b o b=some o:=by simp[Fx.set]
theorem Fx.set_other(F:Fx){b k:Nat}(o:Obj)(a:k≠b):F.set b o k=F k:=by simp[Fx.set,a]
theorem Fx.le_set{F:Fx}{b:Nat}(o:Obj)(c:F b=none):F.le (F.set b o):=fun d g a=>by
 have e:d≠b:=fun f=>by rw[f,c]at a;cases a
 rw[Fx.set_other F o e];exact a
def gK(u v:Value):Prop:= ∀a,u.ownBlock=some a->v.ownBlock≠some a
theorem gK.symm{u v:Value}(a:gK u v):gK v u:=fun b c d=>a b d c
theorem gK.nilL(v:Value)(a b:Nat):gK (.slice none a b) v:=fun b c=>by simp[Value.ownBlock]at c
structure aZ(lo:Nat)(F:Fx)(p:Nat)(vs:List Value)(W:World):Prop where
 fits: ∀b o,F b=some o->lo<=b/\W.heap[b]? =some o
 offp:F p=none
 ltp:p<W.heap.size
 off: ∀v∈vs,∀b,v.ownBlock=some b->F b=none/\b≠p/\lo<=b/\b<W.heap.size
 dis:vs.Pairwise gK
theorem fP{W:World}{b:Nat}{o:Obj}(a:W.heap[b]? =some o):b<W.heap.size:=by
 rcases J' b W.heap.size with h'|h'
 ·exact h'
 ·rw[KG h']at a;cases a
theorem aZ.ltF{lo p:Nat}{F:Fx}{a:List Value}{W:World}(c:aZ lo F p a W){b:Nat}{o:Obj}(d:F b=some o):b<W.heap.size:=fP (c.fits b o d).2
theorem aZ.noneF{lo p:Nat}{F:Fx}{a:List Value}{W:World}(c:aZ lo F p a W){b:Nat}(e:W.heap.size<=b):F b=none:=by
 cases d:F b with
 |none=>rfl
 |some f=>have:=c.ltF d;omega
theorem aZ.keep{lo p:Nat}{F:Fx}{d:List Value}{W W':World}(a:aZ lo F p d W)(f:W.heap.size<=W'.heap.size)(g: ∀k,k<W.heap.size->W'.heap[k]? =W.heap[k]?):aZ lo F p d W':=
 ⟨fun b o e=>⟨(a.fits b o e).1,by rw[g b (a.ltF e)];exact(a.fits b o e).2⟩,a.offp,Js a.ltp f,fun v c b e=>⟨(a.off v c b e).1,(a.off v c b e).2.1,(a.off v c b e).2.2.1,Js (a.off v c b e).2.2.2 f⟩,a.dis⟩
theorem aZ.below{lo p:Nat}{F:Fx}{a:List Value}{W W':World}(c:aZ lo F p a W)(b:Below W.heap.size W W'):aZ lo F p a W':=c.keep b.size b.block
theorem aZ.alloc{lo p:Nat}{F:Fx}{a:List Value}{W:World}(b:aZ lo F p a W)(o:Obj):aZ lo F p a (W.alloc o):=
 b.keep (by simp) (fun k c=>J9 _ _ _ c)
theorem aZ.box{lo p:Nat}{F:Fx}{c:List Value}{W:World}(a:aZ lo F p c W)(off:Nat)(u:Value):aZ lo F p c (W.setCell ⟨p,off,none⟩ u):=
 ⟨fun b o e=>⟨(a.fits b o e).1,by rw[Jp _ _ _ _ (fun d=>by simp at d;rw[d,a.offp]at e;cases e)];exact(a.fits b o e).2⟩,a.offp,by simpa using a.ltp,fun v f b e=>by simpa using a.off v f b e,a.dis⟩
theorem aZ.app{lo p g:Nat}{F:Fx}{vs1 vs2:List Value}{v v':Value}{W W':World}(e:aZ lo F p (vs1++v::vs2) W)(u:lo<=W.heap.size)(j:W.grownBy W' v.ownBlock)(o:v'.ownBlock=some g)(f:v.ownBlock=some g∨W.heap.size<=g)(w:g<W'.heap.size):aZ lo F p (vs1++v'::vs2) W':=by
 have q:v∈vs1++v::vs2:=KJ _ JK;refine⟨fun a r b=>⟨(e.fits a r b).1,?_⟩,e.offp,Js e.ltp j.size,?_,?_⟩
 ·rw[j.block a (e.ltF b) (fun x=>by rw[(e.off v q a x.symm).1]at b;cases b)];exact(e.fits a r b).2
 ·intro c d a b
  have k: ∀c∈vs1++v::vs2,∀a,c.ownBlock=some a->F a=none/\a≠p/\lo<=a/\a<W'.heap.size:=fun c d a b=>⟨(e.off c d a b).1,(e.off c d a b).2.1,(e.off c d a b).2.2.1,Js (e.off c d a b).2.2.2 j.size⟩
  rcases JW.1 d with d|d
  ·exact k c (J4 _ d) a b
  ·rcases JG.1 d with rfl|d
   ·rw[o]at b;injection b with b;subst b;rcases f with f|f
    ·exact k v q _ f
    ·exact⟨e.noneF f,fun b=>by have:=e.ltp;omega,Jt u f,w⟩
   ·exact k c (KJ _ (KQ _ d)) a b
 ·have h:=e.dis;rw[LD,Ka]at h⊢;obtain⟨d1,⟨d2,d3⟩,d4⟩:=h
  have s: ∀c,c∈vs1++v::vs2->gK v c->gK v' c:=by
   intro c d h a i t;rw[o]at i;injection i with i;subst i;rcases f with f|f
   ·exact h _ f t
   ·have:=(e.off c d _ t).2.2.2;omega
  refine⟨d1,⟨fun c d=>s c (KJ _ (KQ _ d)) (d2 c d),d3⟩,fun l m a n=>?_⟩;rcases JG.1 n with rfl|n
  ·exact(s l (J4 _ m) (d4 l m v JK).symm).symm
  ·exact d4 l m a (KQ _ n)
theorem aZ.fix{lo p b:Nat}{F:Fx}{f:List Value}{W:World}{o:Obj}(c:aZ lo F p f W)(h:lo<=b)(i:W.heap[b]? =some o)(j:b≠p)(k: ∀v∈f,v.ownBlock≠some b):aZ lo (F.set b o) p f W:=by
 refine⟨fun d l a=>?_,by rw[Fx.set_other F o (Lm j)];exact c.offp,c.ltp,fun v g d a=>?_,c.dis⟩
 ·by_cases e:d=b
  ·subst e;rw[Fx.set_same]at a;injection a with a;subst a;exact⟨h,i⟩
  ·rw[Fx.set_other F o e]at a;exact c.fits d l a
 ·have e:d≠b:=fun m=>k v g (by rw[a,m]);rw[Fx.set_other F o e];exact c.off v g d a
theorem aZ.write{lo p b:Nat}{F:Fx}{k:List Value}{W:World}{cs:Array Value}{t:TypeId}{f:Nat×Nat}(d:aZ lo F p k W)(h:F b=some (.cells cs t f))(off:Nat)(u:Value):aZ lo (F.set b (.cells (cs.setIfInBounds off u) t f)) p k (W.setCell ⟨b,off,none⟩ u):=by
 have s:=(d.fits b _ h).2;have n:b≠p:=fun c=>by rw[c,d.offp]at h;cases h
 have q: ∀e∈k,e.ownBlock≠some b:=fun e i c=>by rw[(d.off e i b c).1]at h;cases h
 have j:aZ lo (fun a=>if a=b then none else F a) p k W:=⟨fun a l c=>by
  by_cases g:a=b
  ·simp[g]at c
  ·simp[g]at c;exact d.fits a l c,by simp[Ne.symm n,d.offp],d.ltp,fun e i a c=>by
   have g:a≠b:=fun m=>q e i (by rw[c,m]);simp only[g,Lj]
   exact d.off e i a c,d.dis⟩
 have v:aZ lo (fun a=>if a=b then none else F a) p k (W.setCell ⟨b,off,none⟩ u):=⟨fun a l c=>⟨(j.fits a l c).1,by
  rw[Jp _ _ _ _ (fun m=>by simp at m;simp[m]at c)]
  exact(j.fits a l c).2⟩,j.offp,by simpa using j.ltp,fun e i a c=>by simpa using j.off e i a c,j.dis⟩
 have r:=v.fix (d.fits b _ h).1 (o:=.cells (cs.setIfInBounds off u) t f) (b:=b) (by
  simp only[World.setCell,Ly,Jo,s,Lc]
  rfl) n q
 have c:Fx.set (fun a=>if a=b then none else F a) b (.cells (cs.setIfInBounds off u) t f)=F.set b (.cells (cs.setIfInBounds off u) t f):=by
  funext a
  by_cases g:a=b
  ·simp[Fx.set,g]
  ·simp[Fx.set,g]
 rw[c]at r;exact r
theorem aZ.drop{lo p:Nat}{F:Fx}{v:Value}{b:List Value}{W:World}(a:aZ lo F p (v::b) W):aZ lo F p b W:=
 ⟨a.fits,a.offp,a.ltp,fun u c=>a.off u (KQ _ c),(Ka.1 a.dis).2⟩
theorem aZ.seal{lo p g:Nat}{F:Fx}{v:Value}{c:List Value}{W:World}{o:Obj}(a:aZ lo F p (v::c) W)(b:v.ownBlock=some g)(d:W.heap[g]? =some o):aZ lo (F.set g o) p c W:=
 a.drop.fix (a.off v JK g b).2.2.1 d (a.off v JK g b).2.1 (fun u f e=>(Ka.1 a.dis).1 u f g b e)
theorem aZ.add{lo p:Nat}{F:Fx}{f:List Value}{W:World}(c:aZ lo F p f W)(a b:Nat):aZ lo F p (.slice none a b::f) W:=
 ⟨c.fits,c.offp,c.ltp,fun u d k e=>by
  rcases JG.1 d with rfl|d
  ·simp[Value.ownBlock]at e
  ·exact c.off u d k e,Ka.2 ⟨fun u _=>gK.nilL u a b,c.dis⟩⟩
theorem cC{W W':World}{a n:Nat}{e:TypeId}{size:Nat}{u v:Value}{xs:List Value}(b:W.ownsRow a e size u n xs)(c:gK v u)(d:W.grownBy W' v.ownBlock):W'.ownsRow a e size u n xs:=by
 refine b.kept d ?_
 cases f:u.ownBlock with
 |none=>exact .inl rfl
 |some g=>exact .inr (fun e=>c g e.symm f)
theorem dG{W W':World}{b n:Nat}{e:TypeId}{size:Nat}{u:Value}{xs:List Value}(c:W.ownsRow b e size u n xs)(a:Below W.heap.size W W'):W'.ownsRow b e size u n xs:=
 c.kept (row:=none) ⟨a.os,a.tape,a.output,a.size,fun d f _=>a.block d f⟩ (by cases u.ownBlock<;>simp)
theorem bD{W:World}{a n b off:Nat}{e:TypeId}{size:Nat}{u x:Value}{xs:List Value}(c:W.ownsRow a e size u n xs)(d:u.ownBlock≠some b):(W.setCell ⟨b,off,none⟩ x).ownsRow a e size u n xs:=
 c.kept (row:=some b) ⟨rfl,rfl,rfl,by simp,fun g _ f=>Jp _ _ _ _ (fun e=>f (by rw[e]))⟩ (.inr d)
abbrev ie:ByteArray:=⟨#[98,101,121,111,110,100]⟩
def xL(F:Fx)(g:Nat)(ts:List ByteArray):Prop:=F g=some (.cells (aB (ts++List.replicate 8 ie)).toArray 9 (0,0))
def sS(F:Fx)(g:Nat)(a:List Int):Prop:=F g=some (.cells (aE (a++List.replicate 8 (-77))).toArray 3 (0,0))
inductive iz(F:Fx):List (List Int)->List Value->List Value->Prop
 |nil:iz F [] [] []
 |snoc {rs:List (List Int)} {es ls:List Value} (z:List Int) (g:Nat):iz F rs es ls->sS F g z->iz F (rs++[z]) (es++[.slice (some ⟨g,0,none⟩) z.length (z.length+8)]) (ls++[.slice (some ⟨g,0,none⟩) (z.length+8) (z.length+8)])
theorem iz.mono{F a:Fx}(d:F.le a){rs:List (List Int)}{b c:List Value}(e:iz F rs b c):iz a rs b c:=by
 induction e with
 |nil=>exact .nil
 |snoc f g _ h i=>exact .snoc f g i (d _ _ h)
theorem iz.len{F:Fx}{rs:List (List Int)}{a b:List Value}(d:iz F rs a b):a.length=rs.length/\b.length=rs.length:=by
 induction d with
 |nil=>exact⟨rfl,rfl⟩
 |snoc e f _ g c=>simp[c.1,c.2]
theorem iz.at{F:Fx}{rs:List (List Int)}{c d:List Value}(f:iz F rs c d): ∀(k:Nat) (b:List Int),rs[k]? =some b-> ∃g,sS F g b/\c[k]? =some (.slice (some ⟨g,0,none⟩) b.length (b.length+8))/\d[k]? =some (.slice (some ⟨g,0,none⟩) (b.length+8) (b.length+8)):=by
 induction f with
 |nil=>intro k b a;simp at a
 | @snoc rs c d b g hr hi ih=>
  intro k h a;have e:=hr.len;rcases Nat.lt_trichotomy k rs.length with hk|hk|hk
  ·rw[Jz hk]at a;obtain⟨i,j,l,m⟩:=ih k h a;exact⟨i,j,by rw[Jz (by omega)];exact l,by rw[Jz (by omega)];exact m⟩
  ·subst hk;rw[Jw (Ji _),Kv]at a;simp at a;subst a;refine⟨g,hi,?_,?_⟩
   ·rw[<-e.1,Jw (Ji _),Kv];rfl
   ·rw[<-e.2,Jw (Ji _),Kv];rfl
  ·rw[Kj (by simp;omega)]at a;cases a
def rX(F:Fx)(v:Value):Prop:= ∃a,v=.slice (some ⟨a,0,none⟩) 1 1/\F a=some (.cells #[.int .i64 (-77)] 3 (0,0))
theorem rX.mono{F a:Fx}(b:F.le a){v:Value}(c:rX F v):rX a v:=by obtain⟨d,e,f⟩:=c;exact⟨d,e,b _ _ f⟩
structure pY(F:Fx)(t:Tb)(gc gr capr:Nat)(cur:Array Value)(ls:List Value):Prop where
 cols:xL F gc t.cols
 rows:F gr=some (.cells cur 32 (0,0))
 els: ∃es ps,iz F t.rows es ls/\ps.length=8/\(∀v∈ps,rX F v)/\cur.toList.take (t.rows.length+8)=es++ps
theorem pY.mono{F b:Fx}(a:F.le b){t:Tb}{c d e:Nat}{f:Array Value}{g:List Value}(h:pY F t c d e f g):pY b t c d e f g:=by obtain⟨i,j,k,l,m,n,o,p⟩:=h;exact⟨a _ _ i,a _ _ j,k,l,m.mono a,n,fun q r=>(o q r).mono a,p⟩
inductive LTabs(F:Fx):List Tb->List Value->List Value->List Value->List Value->Prop
 |nil:LTabs F [] [] [] [] []
 |snoc {l:List Tb} {ts cs rs ls ls2:List Value} (t:Tb) (gc gr capr:Nat) (cur:Array Value):LTabs F l ts cs rs ls->pY F t gc gr capr cur ls2->
   LTabs F (l++[t]) (ts++[.string t.name,.slice (some ⟨gc,0,none⟩) t.cols.length (t.cols.length+8),.slice (some ⟨gr,0,none⟩) t.rows.length capr]) (cs++[.slice (some ⟨gc,0,none⟩) (t.cols.length+8) (t.cols.length+8)]) (rs++[.slice (some ⟨gr,0,none⟩) (t.rows.length+8) capr]) (ls++ls2)
theorem LTabs.mono{F a:Fx}(c:F.le a){l:List Tb}{ts cs rs b:List Value}(d:LTabs F l ts cs rs b):LTabs a l ts cs rs b:=by
 induction d with
 |nil=>exact .nil
 |snoc e f g h i _ j k=>exact .snoc e f g h i k (j.mono c)
def nrows:List Tb->Nat
 | []=>0
 |t::r=>t.rows.length+nrows r
theorem gD(a b:List Tb):nrows (a++b)=nrows a+nrows b:=by
 induction a with
 |nil=>simp[nrows]
 |cons d e c=>simp only[KS,nrows,c];omega
theorem LTabs.len{F:Fx}{l:List Tb}{ts cs rs b:List Value}(c:LTabs F l ts cs rs b):ts.length=l.length*3/\cs.length=l.length/\rs.length=l.length/\b.length=nrows l:=by
 induction c with
 |nil=>exact⟨rfl,rfl,rfl,rfl⟩
 |snoc f g h i j _ d a=>
  obtain⟨_,_,k,m,e,_⟩:=d;refine⟨?_,?_,?_,?_⟩
  ·simp;omega
  ·simp[a.2.1]
  ·simp[a.2.2.1]
  ·rw[Jk,gD,a.2.2.2,e.len.2];simp[nrows]
theorem LTabs.at{F:Fx}{l:List Tb}{ts cs rs f:List Value}(m:LTabs F l ts cs rs f): ∀(pre suf:List Tb) (t:Tb),l=pre++t::suf-> ∃b c d i j e n,pY F t b c d i e/\f=j++(e++n)/\j.length=nrows pre/\
  ts[pre.length*3]? =some (.string t.name)/\ts[pre.length*3+1]? =some (.slice (some ⟨b,0,none⟩) t.cols.length (t.cols.length+8))/\ts[pre.length*3+2]? =some (.slice (some ⟨c,0,none⟩) t.rows.length d)/\
  cs[pre.length]? =some (.slice (some ⟨b,0,none⟩) (t.cols.length+8) (t.cols.length+8))/\rs[pre.length]? =some (.slice (some ⟨c,0,none⟩) (t.rows.length+8) d):=by
 induction m with
 |nil=>intro pre suf t g;simp at g
 | @snoc l ts cs rs f e u b c d i hr ht ih=>
  intro pre suf t g;have a:=hr.len;rcases List.eq_nil_or_concat suf with rfl|⟨suf',x,rfl⟩
  ·obtain⟨rfl,h⟩:=List.append_inj' g rfl;injection h with h;subst h;refine⟨b,c,d,i,f,e,[],ht,by simp,a.2.2.2,?_,?_,?_,?_,?_⟩
   ·rw[<-a.1,Jw (Ji _),Kv];rfl
   ·rw[<-a.1,Jw (by omega),Kk];rfl
   ·rw[<-a.1,Jw (by omega),Kk];rfl
   ·rw[<-a.2.1,Jw (Ji _),Kv];rfl
   ·rw[<-a.2.2.1,Jw (Ji _),Kv];rfl
  ·have o:l++[u]=(pre++t::suf')++[x]:=by rw[g];simp
   obtain⟨k,h⟩:=List.append_inj' o rfl;obtain⟨p,q,r,s,v,w,y,z,A,B,C,D,E,G,H⟩:=ih pre suf' t k;have I:pre.length<l.length:=by rw[k];simp
   refine⟨p,q,r,s,v,w,y++e,z,by rw[A];simp,B,?_,?_,?_,?_,?_⟩
   ·rw[Jz (by omega)];exact C
   ·rw[Jz (by omega)];exact D
   ·rw[Jz (by omega)];exact E
   ·rw[Jz (by omega)];exact G
   ·rw[Jz (by omega)];exact H
def dY:Nat:=5
def eW:Nat:=6
def iJ:Nat:=7
def uA:Nat:=8
def sU:Nat:=9
def bd:Tb:=⟨⟨#[]⟩,[],[]⟩
structure Sr where
 alias:ByteArray
 tab:Nat
 first:Nat
def ck(b:List Sr)(a:ByteArray):Option Sr:=b.find? fun c=>c.alias.toList==a.toList
def dz(T:List Tb)(a:ByteArray):Option Nat:=T.findIdx? fun b=>b.name.toList==a.toList
def bh(T:List Tb)(s:Sr):List ByteArray:=(T.getD s.tab bd).cols
def a6(T:List Tb)(d:List Sr)(a c:ByteArray):Int:=match ck d a with
 |none=>0
 |some b=>b.first+Lib.idxOfS (bh T b) c
def eA(T:List Tb)(a:List Sr)(n:Nd):Option (Nat×Nat):=
 if n.tag=2 then
  match ck a n.s1 with
  |none=>some (n.p1,dY)
  |some s=>if Lib.idxOfS (bh T s) n.s2<0 then some (n.p2,eW)else none
 else none
def cw(T:List Tb)(a:List Sr)(l:List Nd):Option (Nat×Nat):=l.findSome? (eA T a)
def bQ(a b:Option (Nat×Nat)):Option (Nat×Nat):=match a with
 |some c=>some c
 |none=>b
theorem lj(a:Option (Nat×Nat)):bQ a none=a:=by cases a<;>rfl
theorem pZ(a b c:Option (Nat×Nat)):bQ (bQ a b) c=bQ a (bQ b c):=by cases a<;>rfl
theorem dZ{a b:Option (Nat×Nat)}(c:bQ a b=none):a=none/\b=none:=by
 cases a with
 |none=>exact⟨rfl,c⟩
 |some d=>cases c
theorem dc(T:List Tb)(a:List Sr)(n:Nd)(l:List Nd):cw T a (n::l)=bQ (eA T a n) (cw T a l):=by unfold cw;rw[List.findSome?_cons];cases eA T a n<;>rfl
theorem mX(T:List Tb)(a:List Sr)(k l:List Nd):cw T a (k++l)=bQ (cw T a k) (cw T a l):=by
 induction k with
 |nil=>rfl
 |cons c k b=>rw[KS,dc,dc,b,pZ]
def iK(c:ByteArray)(a b:Int):Int:=if c.toList== [43]then wrap64 (a+b)else if c.toList== [45]then wrap64 (a-b)else wrap64 (a*b)
def sV(d:ByteArray->ByteArray->Int)(n:Nd)(S:List (List Int->Int)):List (List Int->Int):=match n.tag with
 |0=>(fun _=>n.v)::S
 |1=>match S with
  |a::c=>(fun b=>wrap64 (-(a b)))::c
  | []=>[]
 |2=>(fun b=>b.getD (d n.s1 n.s2).toNat 0)::S
 |3=>match S with
  |a::c=>a::c
  | []=>[]
 |_=>match S with
  |a::e::c=>(fun b=>iK n.s1 (a b) (e b))::c
  |_=>[]
def sW(a:ByteArray->ByteArray->Int)(l:List Nd)(S:List (List Int->Int)):List (List Int->Int):=l.foldr (sV a) S
def dm(a:ByteArray->ByteArray->Int)(l:List Nd):List Int->Int:=(sW a l []).headD (fun _=>0)
def pD(a:ByteArray->ByteArray->Int)(l:List Nd):Prop:= ∀b,sW a l b=dm a l::b
theorem Bm(a:ByteArray->ByteArray->Int)(k m:List Nd)(S:List (List Int->Int)):sW a (k++m) S=sW a k (sW a m S):=List.foldr_append
theorem p4{a:ByteArray->ByteArray->Int}{l:List Nd}{t:List Int->Int}(b: ∀S,sW a l S=t::S):pD a l/\dm a l=t:=by
 have c:dm a l=t:=by unfold dm;rw[b];rfl
 exact⟨fun S=>by rw[b,c],c⟩
theorem sX(a:ByteArray->ByteArray->Int)(t:Tk):pD a [mh t]/\dm a [mh t]=fun _=>t.value:=p4 fun _=>rfl
theorem sY(a:ByteArray->ByteArray->Int)(t u:Tk):pD a [dl t u]/\dm a [dl t u]=fun r=>r.getD (a t.text u.text).toNat 0:=p4 fun _=>rfl
theorem o8{a:ByteArray->ByteArray->Int}{k:List Nd}(c:pD a k)(p:Nat):pD a (gv p::k)/\dm a (gv p::k)=fun r=>wrap64 (-(dm a k r)):=p4 fun b=>by
 show sV a (gv p) (sW a k b)=_
 rw[c b];rfl
theorem wK{a:ByteArray->ByteArray->Int}{k:List Nd}(c:pD a k)(p:Nat):pD a (mH p::k)/\dm a (mH p::k)=dm a k:=p4 fun b=>by
 show sV a (mH p) (sW a k b)=_
 rw[c b];rfl
theorem qI{a:ByteArray->ByteArray->Int}{k m:List Nd}(d:pD a k)(e:pD a m)(p:Nat)(b:ByteArray):pD a (fZ p b::(k++m))/\dm a (fZ p b::(k++m))=fun r=>iK b (dm a k r) (dm a m r):=p4 fun c=>by
 show sV a (fZ p b) (sW a (k++m) c)=_
 rw[Bm,e c,d];rfl
theorem bC.wfv{w:World}{P:Nat->Prop}(a:ByteArray->ByteArray->Int): ∀(n:Nat) (v:Value) (l:List Nd),bC w P n v l->pD a l
 |0,_,_,c=>c.elim
 |n+1,v,l,c=>by
  rcases c with⟨b,t,_,_,_,rfl⟩|⟨b,p,x,k,_,_,_,h3,rfl⟩|⟨b,t,u,_,_,_,rfl⟩|⟨b,p,x,k,_,_,_,h3,rfl⟩|⟨b,p,x,sg,y,k,m,_,_,_,h3,h4,rfl⟩
  ·exact(sX a t).1
  ·exact(o8 (bC.wfv a n x k h3) p).1
  ·exact(sY a t u).1
  ·exact(wK (bC.wfv a n x k h3) p).1
  ·exact(qI (bC.wfv a n x k h3) (bC.wfv a n y m h4) p sg).1
structure gh(w0:World)(F:Fx)(W:World):Prop where
 old:Below w0.heap.size w0 W
 new: ∀b o,F b=some o->W.heap[b]? =some o
theorem gh.below{c W W':World}{F:Fx}(a:gh c F W)(d:Below W.heap.size W W'):gh c F W':=
 ⟨a.old.trans (d.mono a.old.size),fun b o e=>by rw[d.block b (fP (a.new b o e))];exact a.new b o e⟩
theorem gh.mono{a W:World}{F b:Fx}(c:gh a b W)(f:F.le b):gh a F W:=⟨c.old,fun d e g=>c.new d e (f d e g)⟩
def Fx.off(F:Fx)(X:Nat->Bool):Fx:=fun a=>if X a then none else F a
theorem Fx.off_mono{F b:Fx}(c:F.le b)(X:Nat->Bool):(F.off X).le (b.off X):=fun d e a=>by
 unfold Fx.off at a⊢;split at a
 ·cases a
 ·rename_i f;rw[Jn f];exact c d e a
theorem Fx.off_some{F:Fx}{X:Nat->Bool}{b:Nat}{o:Obj}(a:F b=some o)(c:X b=false):F.off X b=some o:=by unfold Fx.off;rw[c];exact a
abbrev sZ(g:Nat):Prop:= ∀args w,(callFunc g args).run prog w=.ok (.enter g args) w
end
section
open Go.RowKit Go.Extern.Stop Go.Stop Go.Extern Tryz
theorem IA(v:Value)(a:TypeId)(w:World):(Instr.typeAssert (.iface 110 v) a 194 true).run prog w=.ok (.tuple #[.nilIface,.bool false]) w:=KV underlying194 (by kernel_rfl) (by kernel_rfl) v a w
theorem Bn(v:Value)(a:TypeId)(w:World):(Instr.typeAssert (.iface 110 v) a 197 true).run prog w=.ok (.tuple #[.iface 110 v,.bool true]) w:=run_typeAssert_hasB underlying197 (by kernel_rfl) v a w
theorem xM(v:Value)(w:World):(Go.method 639 110 v "Unwrap").run prog w=.ok (373,v) w:=by kernel_rfl
theorem Gs(a:Addr)(w:World):
  Calls prog 18 #[.iface 496 (.pointer (some a)),.iface 496 (.pointer (some a))] w fun e w'=>e=.returned (.bool true)/\w'=w:=by
 obtain⟨f,b,c⟩:=Jq.1 pK;obtain⟨g,d,h⟩:=Jq.1 pL;have i:= @JH prog 42 _ Extern.ReflectliteType.typeOf func42 (by kernel_rfl) (by kernel_rfl) (by kernel_rfl) (by kernel_rfl);have j:= @JH prog 376 _ A1 func376 (by kernel_rfl) (by kernel_rfl) (by kernel_rfl) (by kernel_rfl);have k:=oO;have l:=mC;have m:=iB;have n:=LP (P:=prog) w a underlying23 underlying496 b c d;go_enter func18,ntmps18;go_wp2;refine Lv 1 ?_;rw[Lq];go_wp2;go_ret;exact⟨rfl,rfl⟩
theorem wq(c:Nat)(b a:Addr)(d f:Array Value)(g h:TypeId)(w:World)(p:w.cell? ⟨c,1,none⟩=some (.iface 496 (.pointer (some a))))(i:a≠b)(j:w.heap[a.block]? =some (.cells d g (0,0)))(k:w.heap[b.block]? =some (.cells f h (0,0))):
  Calls prog 18 #[.iface 110 (.pointer (some ⟨c,0,none⟩)),.iface 496 (.pointer (some b))] w fun e w'=>e=.returned (.bool false)/\w'=w:=by
 obtain⟨q,l,m⟩:=Jq.1 pK;obtain⟨r,n,o⟩:=Jq.1 pL;have s:= @JH prog 42 _ Extern.ReflectliteType.typeOf func42 (by kernel_rfl) (by kernel_rfl) (by kernel_rfl) (by kernel_rfl);have t:= @JH prog 376 _ A1 func376 (by kernel_rfl) (by kernel_rfl) (by kernel_rfl) (by kernel_rfl);have u:=oO;have v:=mC;have x:=iB;have y:=FZ;have z:=pM;have A:=oP;have B:=IA;have C:=Bn;have D:=xM;have E:=Mn (P:=prog) w underlying23 underlying496 l m n (by rw[o];decide) i j k;have F:=run_eql_iface_types (P:=prog) 110 496 (.pointer (some ⟨c,0,none⟩)) (.pointer (some b)) underlying23 (by decide) w;go_enter func18,ntmps18;go_wp2;refine Lv 2 ?_;rw[Lq];go_wp2;rw[Lq];go_wp2;go_ret;exact⟨rfl,rfl⟩
end
section
open Go.RowKit Tryz
theorem AH(w:World)(v:Value):(binOp .eql 23 (.iface 496 v) .nilIface).run prog w=.ok (.bool false) w:=by
 have b: ∀a:Nat,(Op.equalIn (a+1) 23 (.iface 496 v) .nilIface).run prog w=.ok false w:=fun a=>by simp[Op.equalIn,run_underlying underlying23]
 simp only[binOp];simp[Op.equal,Op.maxDepth,b 9999]
def tw(j:Nat):Bool:=decide (j<13)&&j !=10
theorem s6{j:Nat}(a:tw j=true):j<13:=by unfold tw at a;simp only[Kc,JQ]at a;exact a.1
structure cJ(a:Nat->Addr)(B:Nat)(w:World):Prop where
 env:fD a B w
 cell: ∀j,tw j=true->w.cell? ⟨j,0,none⟩=some (.iface 496 (.pointer (some (a j))))
 below: ∀j,tw j=true->(a j).block<B
 row: ∀j,tw j=true-> ∃c t,w.heap[(a j).block]? =some (.cells c t (0,0))
 ne: ∀i j,tw i=true->tw j=true->i≠j->a i≠a j
theorem cJ.keep{a:Nat->Addr}{e:Nat}{w w':World}(b:cJ a e w)(f:Below e w w'):cJ a e w':=by
 refine⟨b.env.keep f,fun c d=>?_,b.below,fun c d=>?_,b.ne⟩
 ·rw[f.cell (p:=⟨c,0,none⟩) (Js (s6 d) b.env.low)];exact b.cell c d
 ·obtain⟨g,h,i⟩:=b.row c d;exact⟨g,h,by rw[f.block _ (b.below c d)];exact i⟩
theorem cJ.alloc{a:Nat->Addr}{b:Nat}{w:World}(c:cJ a b w)(o:Obj):cJ a b (w.alloc o):=c.keep ((Jj _ _).alloc c.env.size _)
theorem EP(a:Nat->Addr)(w:World)(i:Nat):
  (binOp .eql 23 (bI a i) (bI a i)).run prog w=.ok (.bool true) w:=by
 obtain⟨e,b,c⟩:=Jq.1 pK;obtain⟨f,d,_⟩:=Jq.1 pL;exact LP w (a i) underlying23 underlying496 b c d
theorem cJ.other{a:Nat->Addr}{e:Nat}{w:World}(b:cJ a e w)(i j:Nat)(c:tw i=true)(d:tw j=true)(f:i≠j):
  (binOp .eql 23 (bI a i) (bI a j)).run prog w=.ok (.bool false) w:=by
 obtain⟨o,g,h⟩:=Jq.1 pK;obtain⟨p,k,l⟩:=Jq.1 pL;obtain⟨q,r,m⟩:=b.row i c;obtain⟨s,t,n⟩:=b.row j d;exact Mn w underlying23 underlying496 g h k (by rw[l];decide) (b.ne i j c d f) m n
def fA(k:Nat):Int:=if k=fS then 1 else if k=jZ then 2 else if k=fU then 3 else if k=bE then 4 else 9
theorem Hu(a:Option Addr)(w:World):Sem.run prog (Instr.typeAssert (.iface 110 (.pointer a)) 23 110 true) w=.ok (.tuple #[.pointer a,.bool true]) w:=by kernel_rfl
theorem IB(a:Option Addr)(w:World):Sem.run prog (Instr.typeAssert (.iface 496 (.pointer a)) 23 110 true) w=.ok (.tuple #[.pointer none,.bool false]) w:=by kernel_rfl
structure Fc where
 w0:World
 a:Nat->Addr
 fb:Nat
 tb:Nat
 tof:Nat
 tc:Nat
 T:List Tb
 X:Nat->Bool
 iw:Bool
def Fc.tabs(c:Fc):Value:=.slice (some ⟨c.tb,c.tof,none⟩) c.T.length c.tc
def kG(c:Fc)(b:List Sr):List Value:=b.flatMap fun a=>[.string a.alias,.pointer (some ⟨c.tb,c.tof+a.tab*3,none⟩),.int .i64 a.first]
theorem EQ(c:Fc)(a:List Sr)(s:Sr):kG c a++[.string s.alias,.pointer (some ⟨c.tb,c.tof+s.tab*3,none⟩),.int .i64 s.first]=kG c (a++[s]):=by simp[kG]
theorem Gt(c:Fc)(a:List Sr):(kG c a).length=a.length*3:=by
 induction a with
 |nil=>rfl
 |cons d e b=>simp only[kG,LM,Jk,Ju,Kr]at b⊢;omega
theorem td(c:Fc)(pre suf:List Sr)(s:Sr):(kG c (pre++s::suf))[pre.length*3]? =some (.string s.alias)/\(kG c (pre++s::suf))[pre.length*3+1]? =some (.pointer (some ⟨c.tb,c.tof+s.tab*3,none⟩))/\(kG c (pre++s::suf))[pre.length*3+2]? =some (.int .i64 s.first):=by
 have b:kG c (pre++s::suf)=kG c pre++([.string s.alias,.pointer (some ⟨c.tb,c.tof+s.tab*3,none⟩),.int .i64 s.first]++kG c suf):=by simp[kG]
 have a:=Gt c pre;rw[b];refine⟨?_,?_,?_⟩
 ·rw[Jw (by omega),a,Kv];rfl
 ·rw[Jw (by omega),a,Kk];rfl
 ·rw[Jw (by omega),a,Kk];rfl
def xN(F:Fx)(a:Nat->Addr)(c:Value):Option (Nat×Nat)->Prop
 |none=>c=.nilIface
 |some (p,k)=> ∃b,c=.iface 110 (.pointer (some ⟨b,0,none⟩))/\F b=some (.cells #[.int .i64 (p:Nat),bI a k] 113 (0,0))
theorem xN.mono{F c:Fx}(e:F.le c){a:Nat->Addr}{d:Value}{er:Option (Nat×Nat)}(b:xN F a d er):xN c a d er:=by
 match er,b with
 |none,b=>exact b
 |some (i,j),⟨f,g,h⟩=>exact⟨f,g,e _ _ h⟩
structure FS(c:Fc)(F:Fx)(W:World)(sv iv tv ev:Value)(wd:Nat)(ss:List Sr)(er:Option (Nat×Nat)):Prop where
 env:cJ c.a c.w0.heap.size W
 old:Below c.w0.heap.size c.w0 W
 grow:aZ c.w0.heap.size F c.fb [sv,iv,tv] W
 box:W.heap[c.fb]? =some (.cells #[c.tabs,.bool c.iw,sv,.int .i64 wd,iv,tv,ev] 299 (0,0))
 err:xN F c.a ev er
 tabs: ∀W',gh c.w0 F W'->bp W' c.tabs c.T
 srcs:W.ownsRow c.w0.heap.size 423 3 sv ss.length (kG c ss)
 few:ss.length<=3
 ok: ∀s∈ss,s.tab<c.T.length
 wide:wd<=6*ss.length/\(∀s∈ss,s.first+(bh c.T s).length<=wd)/\ ∀t∈c.T,t.cols.length<=6
 fbX: ∀b,c.X b=true->b<W.heap.size
 low:c.w0.heap.size<=c.fb
structure kY(n:Nat)(F F':Fx):Prop where
 le:F.le F'
 old: ∀b,b<n->F' b=F b
theorem kY.refl(n:Nat)(F:Fx):kY n F F:=⟨Fx.le.refl F,fun _ _=>rfl⟩
theorem kY.trans{n m:Nat}{F a b:Fx}(c:kY n F a)(k:kY m a b)(hn:n<=m):kY n F b:=⟨c.le.trans k.le,fun d e=>(k.old d (by omega)).trans (c.old d e)⟩
theorem kY.mono{n m:Nat}{F a:Fx}(b:kY m F a)(hn:n<=m):kY n F a:=⟨b.le,fun c d=>b.old c (by omega)⟩
theorem kY.set{n:Nat}{F:Fx}{b:Nat}(o:Obj)(c:n<=b)(a:F b=none):kY n F (F.set b o):=⟨Fx.le_set o a,fun d e=>Fx.set_other F o (by omega)⟩
theorem FS.fits{c:Fc}{F:Fx}{W:World}{b d e f:Value}{g:Nat}{h:List Sr}{er:Option (Nat×Nat)}(a:FS c F W b d e f g h er):gh c.w0 F W:=⟨a.old,fun i j k=>(a.grow.fits i j k).2⟩
theorem FS.below{c:Fc}{F:Fx}{W W':World}{f g h i:Value}{j:Nat}{k:List Sr}{er:Option (Nat×Nat)}(a:FS c F W f g h i j k er)(d:Below W.heap.size W W'):FS c F W' f g h i j k er:=
 ⟨a.env.keep (d.mono a.old.size),a.old.trans (d.mono a.old.size),a.grow.below d,(d.block _ a.grow.ltp).trans a.box,a.err,a.tabs,dG a.srcs d,a.few,a.ok,a.wide,fun b e=>Js (a.fbX b e) d.size,a.low⟩
theorem FS.alloc{c:Fc}{F:Fx}{W:World}{a b d e:Value}{f:Nat}{g:List Sr}{er:Option (Nat×Nat)}(h:FS c F W a b d e f g er)(o:Obj):FS c F (W.alloc o) a b d e f g er:=h.below ((Jj _ _).alloc (Ji _) _)
theorem FS.drew{c:Fc}{F:Fx}{W:World}{a b d e:Value}{f:Nat}{g:List Sr}{er:Option (Nat×Nat)}(h:FS c F W a b d e f g er):FS c F W.drew a b d e f g er:=h.below (Jj _ _).drew
theorem FS.fix{c:Fc}{F:Fx}{W:World}{d e f g:Value}{h:Nat}{i:List Sr}{er:Option (Nat×Nat)}(a:FS c F W d e f g h i er){b:Nat}{o:Obj}(j:W.heap[b]? =some o)(k:c.w0.heap.size<=b)(l:b≠c.fb)(m: ∀v∈ [d,e,f],v.ownBlock≠some b)(hn:F b=none):FS c (F.set b o) W d e f g h i er:=
 ⟨a.env,a.old,a.grow.fix k j l m,a.box,a.err.mono (Fx.le_set o hn),fun W' n=>a.tabs W' (n.mono (Fx.le_set o hn)),a.srcs,a.few,a.ok,a.wide,a.fbX,a.low⟩
theorem FS.fixNew{c:Fc}{F l:Fx}{j W:World}{a d f k m:Value}{g:Nat}{h:List Sr}{er n:Option (Nat×Nat)}(p:FS c F W a d f k g h er)(i:FS c l j a d f m g h n){b:Nat}{o:Obj}(q:W.heap[b]? =some o)(r:j.heap.size<=b)(hn:F b=none):FS c (F.set b o) W a d f k g h er:=
 p.fix q (Jt i.old.size r) (fun e=>by have:=i.grow.ltp;omega) (fun s t e=>by have:=(i.grow.off s t b e).2.2.2;omega) hn
theorem FS.facts{c:Fc}{F:Fx}{W:World}{b d e f:Value}{g:Nat}{h:List Sr}{er:Option (Nat×Nat)}(a:FS c F W b d e f g h er):(∀o,W.cell? ⟨c.fb,o,none⟩= #[c.tabs,.bool c.iw,b,.int .i64 g,d,e,f][o]?)/\(∀o,W.frozen? ⟨c.fb,o,none⟩=false)/\c.fb<W.heap.size:=
 ⟨(blk a.box).1,(blk a.box).2,a.grow.ltp⟩
theorem FS.setErr{c:Fc}{F:Fx}{W:World}{b g h k d:Value}{i:Nat}{j:List Sr}{er er':Option (Nat×Nat)}(a:FS c F W b g h k i j er)(l:xN F c.a d er'):FS c F (W.setCell ⟨c.fb,6,none⟩ d) b g h d i j er':=by have e:=a.low;refine⟨a.env.keep ((Jj _ _).setCell e _),a.old.setCell e _,a.grow.box _ _,(am a.box _).trans rfl,l,a.tabs,?_,a.few,a.ok,a.wide,fun m f=>by simpa using a.fbX m f,e⟩;refine bD a.srcs (fun f=>?_);exact(a.grow.off b JK _ f).2.1 rfl
theorem nJ(c:Fc)(F:Fx)(W:World)(g h i j:Value)(l:Nat)(m:List Sr)(er:Option (Nat×Nat))(f:FS c F W g h i j l m er)(b p k:Nat)(n:F b=some (.cells #[.int .i64 (p:Nat),bI c.a k] 113 (0,0))):
  Calls prog 244 #[.pointer (some ⟨c.fb,0,none⟩),.iface 110 (.pointer (some ⟨b,0,none⟩))] W fun e W'=>e=.returned (.tuple #[])/\Kp c.fb W W'/\ ∃o,FS c F W' g h i o l m (bQ er (some (p,k))):=by
 obtain⟨s,t,u⟩:=f.facts;have a:=ab f;have d:=f.err;have q:=ab n;clear f n
 match er,d,a with
 |none,d,a=>obtain rfl:j=.nilIface:=d;go_enter func244,ntmps244;go_wp2;go_end0;exact⟨rfl,(Kp.refl _ _).setCell _ _,_,a.setErr (er':=some (p,k)) ⟨b,rfl,q⟩⟩
 |some (v,w),d,a=>obtain⟨x,rfl,r⟩:=d;clear r;go_enter func244,ntmps244;go_wp2;go_end0;exact⟨rfl,Kp.refl _ _,_,a⟩
end
end Go.Proofs.YtfkeddkfegaeiaaGreatDoor
