import Derived.Test.YtfkeddkfegaeiaaGreatDoorPnPlP
set_option maxRecDepth 100000
set_option maxHeartbeats 20000000
namespace Go.Proofs.YtfkeddkfegaeiaaGreatDoor
section
open Go.RowKit Go.Sort Tryz
theorem C0(a b:Int):ej b a= -ej a b:=by unfold ej;split<;>split<;>(try split)<;>omega
theorem Gx{a b:Int}:ej a b<=0↔a<=b:=by unfold ej;split<;>(try split)<;>omega
theorem AI{a b:Int}:ej a b<0↔a<b:=by unfold ej;split<;>(try split)<;>omega
theorem C1(a:List Int):bV a a=0:=by
 induction a with
 |nil=>rfl
 |cons c d b=>simp only[bV,vu,Mi];exact b
theorem p8: ∀ {a b:List Int},bV a b=0->a=b
 | [],[],_=>rfl
 | [],_::_,c=>by simp[bV]at c
 |_::_,[],c=>by simp[bV]at c
 |x::r,e::s,c=>by
  unfold bV at c;split at c
  ·rename_i d
   rw[nL d,p8 c]
  ·contradiction
theorem fM: ∀(a b:List Int),bV b a= -bV a b
 | [],[]=>rfl
 | [],_::_=>rfl
 |_::_,[]=>rfl
 |x::r,c::s=>by
  have d:=C0 x c;unfold bV;split
  ·rename_i e
   rw[Jo (by omega),fM r s]
  ·rename_i e
   rw[Jn (by omega),d]
theorem my: ∀(a b c:List Int),bV a b<=0->bV b c<=0->bV a c<=0
 | [],_,[],_,_=>by simp[bV]
 | [],_,_::_,_,_=>by simp[bV]
 |_::_,[],_,i,_=>by simp[bV]at i
 |_::_,_::_,[],_,i=>by simp[bV]at i
 |x::r,f::s,g::t,h,d=>by
  unfold bV at h d⊢;by_cases j:ej x f=0
  ·rw[Jo j]at h;obtain rfl:=nL j;by_cases e:ej x g=0
   ·rw[Jo e]at d⊢;exact my r s t h d
   ·rw[Jn e]at d⊢;exact d
  ·rw[Jn j]at h;have k:x<f:=AI.1 (by omega)
   have l:f<=g:=by
    by_cases e:ej f g=0
    ·exact Int.le_of_eq (nL e)
    ·rw[Jn e]at d;exact Gx.1 d
   have m:ej x g<0:=AI.2 (by omega);rw[Jn (by omega)];omega
theorem Gy(a b c:List Int)(e:bV a b<0)(f:bV b c<0):bV a c<0:=by
 have g:=my a b c (by omega) (by omega);by_cases d:bV a c=0
 ·obtain rfl:=p8 d;have:=fM a b;omega
 ·omega
theorem Ia{b:Type}(f:b->List Int):SWO (ltOf fun x a:b=>bV (f x) (f a)) where
 irrefl x:=by simp[ltOf,C1]
 trans x a z h1 h2:=by simp only[ltOf,JQ]at h1 h2⊢;exact Gy _ _ _ h1 h2
 ntrans x a z h1 h2:=by simp only[ltOf,Ku,Mv]at h1 h2⊢;have c:=fM (f x) (f a);have d:=fM (f a) (f z);have e:=fM (f x) (f z);have:=my (f z) (f a) (f x) (by omega) (by omega);omega
def iY(l:List (List Int)):List (List Int):=l.mergeSort (fun a b=>decide (bV a b<=0))
def nM(g:Nat)(w:World)(v:Value)(a:List Int):Prop:= ∃d f,v=.slice d a.length f/\a.length<=maxLen/\(0<a.length-> ∃b e,d=some ⟨b,e,none⟩/\b≠g/\b<w.heap.size/\ ∀c,c<a.length->w.cell? ⟨b,e+c,none⟩=(aE a)[c]?)
theorem nM.row{g:Nat}{w:World}{v:Value}{a:List Int}(d:nM g w v a):aS w v (aE a):=by obtain⟨e,f,rfl,h,i⟩:=d;refine⟨e,f,by rw[Jm],by rw[Jm];exact h,fun b=>?_⟩;rw[Jm]at b;obtain⟨j,k,l,-,m,n⟩:=i b;refine⟨j,k,l,m,fun o c=>n o ?_⟩;rw[Jm]at c;exact c
theorem nM.keep{g:Nat}{w w':World}{v:Value}{a:List Int}(e:nM g w v a)(f:w.heap.size<=w'.heap.size)(h: ∀k,k<w.heap.size->k≠g->w'.heap[k]? =w.heap[k]?):nM g w' v a:=by obtain⟨i,j,rfl,l,m⟩:=e;refine⟨i,j,rfl,l,fun n=>?_⟩;obtain⟨b,o,p,c,d,q⟩:=m n;refine⟨b,o,p,c,Js d f,fun r s=>?_⟩;rw[<-q r s];simp only[World.cell?,h b d c]
theorem rz{a:Type}[Inhabited a](enc:a->Value)(w:World)(g off m:Nat)(d:Array a)(b:Array Obj):w.heap.size<=(sortWorld enc w g off m d b).heap.size:=by unfold sortWorld;rw[Go.Sort.size_grow,size_putRow];exact Nat.le_add_right _ _
theorem m7{a:Type}[Inhabited a](enc:a->Value)(w:World)(g off m:Nat)(d:Array a)(b:Array Obj)(k:Nat)(c:k<w.heap.size)(e:k≠g):(sortWorld enc w g off m d b).heap[k]? =w.heap[k]? :=by unfold sortWorld;rw[Ms _ _ (by simpa using c)];have:g≠k:=fun f=>e f.symm;simp[putRow,mapBlock,Sort.ahead,Array.getElem?_modify,this]
theorem xY{a:Type}[Inhabited a](enc:a->Value)(w:World)(g m:Nat)(d:Array a)(h:Array Obj){b:Array Value}{e:TypeId}{c:Nat×Nat}(f:w.heap[g]? =some (.cells b e c)):(sortWorld enc w g 0 m d h).heap[g]? =some (.cells (putCells enc 0 d b) e c):=by have i:g<w.heap.size:=(J3.1 f).1;unfold sortWorld;rw[Ms _ _ (by simpa using i)];simp[putRow,mapBlock,Sort.ahead,Array.getElem?_modify,f,onCells]
theorem By{a:Type}[Inhabited a](enc:a->Value)(b:Array Value)(d:Array a)(f:d.size<=b.size):(putCells enc 0 d b).toList.take d.size=d.toList.map enc:=by
 apply LN;intro c;by_cases e:c<d.size
 ·rw[Kh e,Kt];simp[putCells,e,show c<b.size by omega]
 ·rw[List.getElem?_take_eq_none (by omega),Kj (by simp;omega)]
abbrev C2(w:World)(g:Nat):Type:= {x:Value×List Int//nM g w x.1 x.2}
instance (w:World) (g:Nat):Inhabited (C2 w g):=⟨⟨(.slice none 0 0,[]),none,0,rfl,KO _,fun h=>absurd h (by decide)⟩⟩
def l7{w:World}{g:Nat}(x:C2 w g):Value:=x.1.1
def pE{w:World}{g:Nat}(x:C2 w g):List Int:=x.1.2
theorem E3(w:World)(g n:Nat):CmpLays1 prog 128 #[] (l7 (w:=w) (g:=g)) (fun a b=>bV (pE a) (pE b)) g 0 n w:=by intro e f h k a b;have d: ∀c:C2 w g,aS (sortWorld (l7 (w:=w) (g:=g)) w g 0 e h f) c.1.1 (aE c.1.2):=fun c=>(c.2.keep (rz _ _ _ _ _ _ _) (m7 _ _ _ _ _ _ _)).row;refine(xX a.1.1 b.1.1 a.1.2 b.1.2 _ (d a) (d b)).mono ?_;rintro l m ⟨i,j⟩;exact⟨i,0, #[],by rw[j,grow_empty];rfl⟩
theorem sc{l e:List (List Int)}(g:e.Perm l)(h:e.Pairwise fun x f=>bV x f<=0):e=iY l:=by
 refine List.Perm.eq_of_pairwise (le:=fun x f=>decide (bV x f<=0)=true) ?_ ?_ ?_ (g.trans (LJ _ _).symm)
 ·intro a b _ _ c d;simp only[JQ]at c d;have:=fM a b;exact p8 (by omega)
 ·exact h.imp fun i=>by simpa using i
 ·exact List.pairwise_mergeSort (fun a b j c d=>by
   simp only[JQ]at c d⊢
   exact my a b j c d) (fun a b=>by
   have:=fM a b;simp only[J8,JQ]
   omega) l
def IF(w:World)(g:Nat)(t:TypeId)(cap:Nat)(l:List (List Int)):Prop:= ∃a:Array Value,w.heap[g]? =some (.cells a t (0,0))/\a.size=cap/\l.length<=cap/\ ∀(b:Nat) c,l[b]? =some c-> ∃d,a[b]? =some d/\nM g w d c
theorem vv{w:World}{g:Nat}{e:Array Value}: ∀(l:List (List Int)) (k:Nat),(∀(i:Nat) a,l[i]? =some a-> ∃v,e[k+i]? =some v/\nM g w v a)-> ∃d:List (C2 w g),d.map pE=l/\ ∀(i:Nat) x,d[i]? =some x->e[k+i]? =some (l7 x)
 | [],_,_=>⟨[],rfl,fun i x c=>by simp at c⟩
 |a::l,k,c=>by
  obtain⟨v,f,h⟩:=c 0 a rfl
  obtain⟨d,j,m⟩:=vv l (k+1) fun i n b=>by
   have:=c (i+1) n (by simpa using b)
   rwa[show k+1+i=k+(i+1)by omega]
  refine⟨⟨(v,a),h⟩::d,by rw[Mz,j];rfl,fun i x b=>?_⟩
  match i with
  |0=>simp only[List.getElem?_cons_zero,Ke]at b;subst b;exact f
  |i+1=>rw[show k+(i+1)=k+1+i by omega];exact m i x (by simpa using b)
end
section
open Go.RowKit Tryz
def iZ(s:ByteArray):ByteArray:=if s.toList.isEmpty then⟨#[95]⟩else s
def fR(a:List (bH×Value×Option Addr)):List Value:=a.map fun b=>.string (iZ b.1.asT)
theorem zP(w:World)(b lo:Nat)(ao:Int)(B ap ar:Value)(s:w.heap[b]? =some (.cells #[.int .i64 ao,B,ap,ar] 256 (0,0)))
  (c:List (bH×Value×Option Addr)) (C:w.ownsRow lo 251 5 B c.length (dI c)) (au:0<c.length) (bb:c.length<=6) (K: ∀e∈c,jQ e.2.1):
  Calls prog 84 #[.pointer (some ⟨b,0,none⟩)] w fun e w'=> ∃g,e=.returned (.slice (some ⟨g,0,none⟩) c.length c.length)/\Below w.heap.size w w'/\w.heap.size<=g/\w'.heap[g]? =some (.cells (fR c).toArray 9 (0,0)):=by
 obtain⟨av,L,M⟩:=Jq.1 lh;simp only[JB]at M;obtain⟨N,O,P⟩:=M;obtain⟨ax,ay,aA,t⟩:=aP L N O P;clear L N O P;obtain⟨i,Q,rfl,_,R⟩:=C.form au;obtain⟨aI,aJ⟩:=ag C K;clear K;have aL:=ab s;have aN:=aa s;obtain⟨o,D⟩:=blk s;have u:w.cell? ⟨b,1,none⟩=some (.slice (some ⟨i,0,none⟩) c.length Q):=o 1;clear C s o;go_enter func84,ntmps84;go_wp2_with (at_make;refine KU _ rfl _ _ 39 rfl w.heap.size 9 av (.string ⟨#[]⟩) 1 underlying39 ax ay aA .i64 .i64 _ _ c.length rfl rfl ?c1 ?c2 ?c3 ?c4 ?c5 ?_)
 case c1=>simp
 case c2=>simp
 case c3=>rw[U t];omega
 case c4=>unfold maxLen;omega
 case c5=>exact Ji _
 intro E S T;rcases S.2 with⟨hv,_⟩|⟨g,cap,cur,hv,hge,k,c1,c2,c3,c4⟩
 ·cases hv
 injection hv with q aR aT;injection q with q;injection q with q;subst q;have V:cur.toList.length=c.length:=by rw[JP,c3];omega
 have aU:Hid (E.heap[w.heap.size]? =some (.cells cur.toList.toArray 9 (0,0))):=by unfold Hid;rw[k]
 have W:Hid (Below w.heap.size w E):=(Jj _ _).grown T (Ji _) (fun bc e=>by cases e);clear S T k c1 c2 c3 c4 aR aT hge u D;generalize cur.toList=aV at*;have a0:=ab V;clear V;have F:=(W.block b aN).trans aL;have a1:=aa F;obtain⟨o,D⟩:=blk F;have u:E.cell? ⟨b,1,none⟩=some (.slice (some ⟨i,0,none⟩) c.length Q):=o 1;clear F o;go_wp2_with fail;clear u a1 D
 go_loopg [5,17] c.length (fun a2 _ a3 X=> ∃a f d,c=a++f/\a2=f.length/\d.length=f.length/\a3=.int .i64 (a.length:Nat)/\X.heap[w.heap.size]? =some (.cells (fR a++d).toArray 9 (0,0))/\Below w.heap.size w X)
 case atStart=>exact⟨[],c,aV,rfl,rfl,a0,rfl,aU,W⟩
 case round=>
  obtain⟨a,f,d,G,rfl,v,rfl,k,Y⟩:=hrel;have Z:a.length+f.length=c.length:=by rw[G,Jk]
  obtain⟨x,H,r⟩:=aC G k Y;have y:=aa k;obtain⟨I,be⟩:=blk k;clear G k Y
  cases f with
  |nil=>
   have a4:decide (a.length<c.length)=false:=by simp at Z⊢;omega
   obtain rfl:a=c:=by rw[U x,JD]
   obtain rfl:d=[]:=KL v;clear I;go_wp2;go_ret;refine⟨w.heap.size,rfl,r,Ji _,?_⟩;have:=U H;rw[JD]at this;exact this
  |cons j f=>
   rw[Ju]at Z
   cases d with
   |nil=>cases v
   |cons ac d=>
   have a4:decide (a.length<c.length)=true:=by simp;omega
   have t:Hid (c=(a++[j])++f):=by unfold Hid;rw[U x];simp
   have m:Hid (∀n,n<5->wr.cell? ⟨i,a.length*5+n,none⟩=[Value.int .i64 j.1.place,j.2.1,.pointer j.2.2,.int .i64 j.1.asP,.string j.1.asT][n]?):=fun n a5=>by rw[r.cell (p:=⟨i,a.length*5+n,none⟩) R,aI.cellAt _ (by omega),x,tm a f j n a5]
   have a9:=(U aJ) j (by rw[U x];simp);obtain⟨h,a',z⟩:=j;have bg:wr.cell? ⟨i,a.length*5,none⟩=some (.int .i64 h.place):=(U m) 0 (by omega);have u:wr.cell? ⟨i,a.length*5+1,none⟩=some a':=(U m) 1 (by omega);have bk:wr.cell? ⟨i,a.length*5+2,none⟩=some (.pointer z):=(U m) 2 (by omega);have bl:wr.cell? ⟨i,a.length*5+3,none⟩=some (.int .i64 h.asP):=(U m) 3 (by omega);have bn:wr.cell? ⟨i,a.length*5+4,none⟩=some (.string h.asT):=(U m) 4 (by omega);have A:(fR a).length=a.length:=by simp[fR]
   have bq:wr.cell? ⟨w.heap.size,a.length,none⟩=some ac:=by rw[I,<-A];simp
   have ad:d.length=f.length:=by simpa using v
   have br:i<wr.heap.size:=Js R r.size;have ae:Hid (∀l,(fR a++ac::d).toArray.setIfInBounds a.length l=(fR a++l::d).toArray):=fun l=>by rw[<-A,JM,KC _ _ (Ji _),Kv,JX]
   have ba:Hid (∀l aj,(fR a++aj::d).toArray.setIfInBounds a.length l=(fR a++l::d).toArray):=fun l aj=>by rw[<-A,JM,KC _ _ (Ji _),Kv,JX]
   have ak:Hid (∀al:Value,fR (a++[(h,al,z)])++d=fR a++ .string (iZ h.asT)::d):=fun al=>by simp[fR]
   clear m I A v;rcases a9 with rfl|⟨ui,B,rfl⟩
   all_goals (
    cases an:h.asT.toList.isEmpty
    ·have J:Hid (iZ h.asT=h.asT):=by unfold Hid iZ;rw[an];rfl
     go_wp2_with fail;go_roundg f.length
     case measure=>simp
     case rel=>
      refine⟨a++[(h,_,z)],f,d,t,rfl,ad,?_,?_,?_⟩
      ·rw[Jk];go_num
      ·rw[J9 _ _ _ (by simpa using y),am (U H),ae,ak,U J]
      ·exact(r.setCell (by exact Ji _) _).alloc (by simpa using MK y) _
    ·have J:Hid (iZ h.asT=⟨#[95]⟩):=by unfold Hid iZ;rw[an];rfl
     go_wp2_with fail;go_roundg f.length
     case measure=>simp
     case rel=>
      refine⟨a++[(h,_,z)],f,d,t,rfl,ad,?_,?_,?_⟩
      ·rw[Jk];go_num
      ·rw[J9 _ _ _ (by simpa using y),am (am (U H) _),ae,ba,ak,U J]
      ·exact((r.setCell (by exact Ji _) _).setCell (by exact Ji _) _).alloc (by simpa using MK y) _)
end
section
open Go.RowKit Go.Shelf Tryz
attribute [local go_sem] Oper.semAt_some
def lC(a:Nat):List (Fin a):=(List.finRange a).reverse
theorem m9(a:Nat):(lC a).length=a:=by simp[lC]
theorem Bz{a k m:Nat}(c:m+k+1=a)(b:m<a):(lC a).take (k+1)=(lC a).take k++[⟨m,b⟩]:=by
 rw[List.take_succ_eq_append_getElem (by rw[m9];omega)]
 congr 1
 simp only[lC,List.getElem_reverse,List.getElem_finRange,List.length_finRange]
 congr 1
 simp;omega
def pF(X:Nat->Prop)(W W':World):Prop:=W.heap.size<=W'.heap.size/\ ∀a,X a->a<W.heap.size->W'.heap[a]? =W.heap[a]?
theorem pF.refl(X:Nat->Prop)(W:World):pF X W W:=⟨Ji _,fun _ _ _=>rfl⟩
theorem pF.trans{X:Nat->Prop}{b c C:World}(a:pF X b c)(k:pF X c C):pF X b C:=
 ⟨Jt a.1 k.1,fun j d e=>(k.2 j d (Js e a.1)).trans (a.2 j d e)⟩
theorem pF.cell{X:Nat->Prop}{a b:World}(c:pF X a b){p:Addr}(d:X p.block)(e:p.block<a.heap.size):b.cell? p=a.cell? p:=by simp only[World.cell?,c.2 _ d e]
theorem Gz(F:Fence)(n:Nat)(D:F.fn 323)(E:F.round=none)(hn:1<=n)(l f b a cap:Nat)(X:Nat->Prop)(i:X b)(G:X f)(r s C:Fin a->Value)(Q:a<=3)(g t:List (Fin a)->World->Prop)
  (H: ∀pre x W,g pre W->pre.length<a->YieldAt F (n-1) prog l #[.int .i64 (x.1:Nat),.agg #[r x,s x,C x]] W fun e W'=>
   (e=.returned (.bool true)/\g (pre++[x]) W'/\pF X W W')∨(e=.returned (.bool false)/\t (pre++[x]) W'))
  (W:World) (u:W.cell? ⟨f,0,none⟩=some (.slice (some ⟨b,0,none⟩) a cap)) (k:b<W.heap.size) (I:f<W.heap.size) (w: ∀j:Fin a,W.cell? ⟨b,j.1*3,none⟩=some (r j)/\W.cell? ⟨b,j.1*3+1,none⟩=some (s j)/\W.cell? ⟨b,j.1*3+2,none⟩=some (C j)) (J:g [] W):
  CallsIn F n prog 323 #[.func (.yield l) #[] #[],.pointer (some ⟨f,0,none⟩)] W fun e W'=>(∃v,e=.returned v)/\
   ((∃y,y=lC a/\g y W')∨(∃pre,True/\t pre W')):=by
 refine callsIn_of_wp func323 rfl D ?_ E;simp only[ntmps323,Me,Ju,Kr,Nat.reduceAdd,Nat.reduceSub,LZ,L0,Mf,L8,LK,KS]
 gi_wp2
 gi_loopw [3] (fun m wr=> ∃c:Nat,c<=a/\m=.int .i64 ((a:Int)-1-c)/\g ((lC a).take c) wr/\pF X W wr)
  (fun m _=>(intOf m+1).toNat)
 case atStart=>exact⟨0,KO _,by simp,J,pF.refl _ _⟩
 case round=>
  obtain⟨c,R,rfl,o,h⟩:=hrel;by_cases S:c<a
  ·obtain⟨d,K⟩: ∃d,d+c+1=a:=⟨a-1-c,by omega⟩
   have q:d<a:=by omega
   rw[show(a:Int)-1-c=d by omega];obtain⟨z,A,B⟩:=w ⟨d,q⟩;have T:=(h.cell (p:=⟨b,d*3,none⟩) i k).trans z;have V:=(h.cell (p:=⟨b,d*3+1,none⟩) i k).trans A;have Y:=(h.cell (p:=⟨b,d*3+2,none⟩) i k).trans B;have Z:=(h.cell (p:=⟨f,0,none⟩) G I).trans u;obtain⟨ac,ad,ae,aj,L,M⟩:=H _ ⟨d,q⟩ wr o (by rw[JU,m9];omega)
   dsimp only at L
   clear z A B u w
   gi_wp2
   refine M.mono ?_;rintro e ak (⟨rfl,N,O⟩|⟨rfl,P⟩)
   ·gi_wp2
    go_roundw
    case rel=>exact⟨c+1,by omega,by congr 1;omega,by rw[Bz K q];exact N,h.trans O⟩
    case measure=>simp[intOf]<;>omega
   ·gi_wp2
    refine Jr (results_none rfl _ _ _) rfl ?_;exact⟨⟨_,rfl⟩,.inr ⟨_,trivial,P⟩⟩
  ·obtain rfl:c=a:=by omega
   rw[show(c:Int)-1-c= -1 by omega]
   gi_wp2
   go_end0;rw[JJ (by rw[m9];exact Ji _)]at o;exact⟨⟨_,rfl⟩,.inl ⟨_,rfl,o⟩⟩
theorem zQ(F:Fence)(n:Nat)(c:F.fn 297)(d:F.round=none)(a:Option Addr)(b cap:Nat)(w:World):
  CallsIn F n prog 297 #[.slice a b cap] w fun e w'=>e=.returned (.func (.func 323) #[] #[.pointer (some ⟨w.heap.size,0,none⟩)])/\w'=w.alloc (.cells #[.slice a b cap] 293):=by
 refine callsIn_of_wp func297 rfl c ?_ d;simp only[ntmps297,Me,Ju,Kr,Nat.reduceAdd,Nat.reduceSub,LZ,L0,Mf,L8,LK,KS]
 gi_wp2
 go_ret;exact⟨rfl,rfl⟩
theorem BA(F:Fence)(n:Nat)(k:F.fn 323)(l:F.round=none)(hn:1<=n)(c b a cap:Nat)(X:Nat->Prop)(m:X b)(o:X c)(f g C:Fin a->Value)(q:a<=3)(w:World)
  (r:w.cell? ⟨c,0,none⟩=some (.slice (some ⟨b,0,none⟩) a cap)) (e:b<w.heap.size) (i:c<w.heap.size) (h: ∀j:Fin a,w.cell? ⟨b,j.1*3,none⟩=some (f j)/\w.cell? ⟨b,j.1*3+1,none⟩=some (g j)/\w.cell? ⟨b,j.1*3+2,none⟩=some (C j)):
  SeqStopsK F n prog 323 #[.pointer (some ⟨c,0,none⟩)] (fun x:Fin a=> #[Value.int .i64 (x.1:Nat),.agg #[f x,g x,C x]]) (pF X) (fun s=>s=lC a) (fun _=>True) a w:=fun t u v y d _ _ z A=>
 Gz F n k l hn t c b a cap X m o f g C q u v z y ((d.cell (p:=⟨c,0,none⟩) i).trans r) (Js e d.size) (Js i d.size)
  (fun j=>⟨(d.cell (p:=⟨b,j.1*3,none⟩) e).trans (h j).1,(d.cell (p:=⟨b,j.1*3+1,none⟩) e).trans (h j).2.1,(d.cell (p:=⟨b,j.1*3+2,none⟩) e).trans (h j).2.2⟩) A
theorem p9{F:Fence}{n:Nat}{P:Program}(w:World){g:Array Oper}{h:List Oper}{o:Oper}{a:Act}{j:Exit->Act->World->Prop}
  (r:o.guard=none) (l c:Operand) (t:TypeId) (b:o.op=Op.makeSlice t l c)
  (d:Nat) (e:TypeId) (i:TypeInfo) (f:Value) (size:Nat) (s:P.underlying t=some (.slice e)) (u:P.info? e=some i) (v:i.zero=some f) (x:i.size=size)
  (k p:IntKind) (q C:Int) (m:Nat) (y:a.eval l=.int k q) (z:a.eval c=.int p C) (A:q=(m:Int)) (B:C=(m:Int)) (D:i.bytes*m<=281474976710656) (E:m<=maxLen) (G:d<=w.heap.size)
  (H: ∀w',w'.ownsRow d e size (.slice (some ⟨w.heap.size,0,none⟩) m m) m (madeCells f.cells (m*size)).toList->w.grownBy w' none->wpListIn F n P g j h (a.put o.dst (.slice (some ⟨w.heap.size,0,none⟩) m m)) w'):
  wpListIn F n P g j (o::h) a w:=by
 refine wpListIn_plain r fun N I=>?_;obtain⟨w',J,K,L⟩:=run_make_full (P:=P) w d t e i f size s u v x k p m D E G;subst A;subst B;unfold Oper.wpIn;refine⟨?_,?_⟩
 ·simp[Oper.about,b]
 ·rw[Oper.semAt_plain F _ _ (by rw[b];intro c M;cases M)];simp[execOp,b,y,z,J,Result.andThen];exact I _ _ (H w' K L)
theorem uG(w:World)(g:Nat)(cs:Array Value):w.grownBy (w.setRow g cs) (some g):=
 ⟨rfl,rfl,rfl,by simp[World.setRow],fun k _ a=>setRow_other w g k cs (fun e=>a (by rw[e]))⟩
theorem uH{n l:Nat}{P:Program}{row:String}{args:Array Value}{w:World}{R:Value->World->Prop}(b:Rows P row args w R):RowsIn (Fence.wide.inRound l) n P row args w R:=by
 have a:RowsIn Fence.wide n P row args w R:=by intro c d _;obtain⟨e,f,g,a⟩:=b c d;exact⟨e,f,g,stepsIn_wide.2 a⟩
 exact a
theorem tA{n l:Nat}{P:Program}{o:Oper}{a:Act}{w:World}{f:Act->World->Prop}{g:Exit->Act->World->Prop}(h: ∀c,o.op≠ .defer c)(b:o.wp P a w f g):o.wpIn (Fence.wide.inRound l) n P a w f g:=by
 refine⟨fun _ _=>trivial,?_⟩;rw[Oper.semAt_plain _ _ _ h];unfold Oper.wp at b;generalize(execOp a.eval o).run P w=i at b
 cases i with
 |ok d j=>
  cases d with
  |value k=>exact b
  |skip=>exact b
  |defer q=>exact b
  |enter r m=>exact⟨fun e=>(by cases e),CallsIn.inRound l (callsIn_wide.2 b)⟩
  |row p m=>exact⟨fun e=>(by cases e),uH b⟩
  |_=>exact b.elim
 |halt d j=>
  cases d with
  |panic k=>exact b
  |_=>exact b.elim
theorem kJ{n l:Nat}{P:Program}{p:Region.Mode}{d:Array Oper}{h:Exit->Act->World->Prop}(e: ∀(i:Nat) o c,d[i]? =some o->o.op≠ .defer c)(f: ¬LetsOut h):
  ∀(fuel:Nat) (j:Array Bool) (a:Act) (w:World),wpAny P p d h fuel j a w->wpAnyIn (Fence.wide.inRound l) n P p d h fuel j a w
 |0,_,_,_,g=>g
 |fuel+1,j,a,w,g=>by
  refine⟨g.1,fun i q=>?_⟩;have b:=g.2 i q;unfold wpOp at b;unfold wpOpIn
  cases k:d[i]? with
  |none=>simp only[k]at b;exact kJ e f fuel _ _ _ b
  |some o=>
   simp only[k]at b;simp only;split
   ·rename_i m
    rw[Jo m]at b;rcases b with b|b
    ·exact tA (fun c=>e i o c k) (Oper.wp_mono (fun a w=>kJ e f fuel _ a w) b)
    ·exact absurd b.2 f
   ·rename_i m
    rw[Jn m]at b;exact⟨fun _ _=>trivial,kJ e f fuel _ _ _ b⟩
attribute [local go_sem] Oper.semAt_some
def xZ{k:Nat}(a:Fin k->List (List Int))(first:Fin k->Nat)(p:Nat×List Value)(x:Fin k):Nat×List Value:=(p.1/(a x).length,splice p.2 (first x) (aE ((a x).getD (p.1%(a x).length) [])))
def l8{k:Nat}(a:Fin k->List (List Int))(first:Fin k->Nat)(p:Nat×List Value)(pre:List (Fin k)):Nat×List Value:=pre.foldl (xZ a first) p
theorem ya{k:Nat}(a:Fin k->List (List Int))(first:Fin k->Nat)(p:Nat×List Value)(pre:List (Fin k))(x:Fin k):l8 a first p (pre++[x])=xZ a first (l8 a first p pre) x:=by simp[l8]
theorem vx{c:Type}(g:Nat)(t:TypeId)(f:c->List Value):Own (fun s W=>W.heap[g]? =some (.cells (f s).toArray t (0,0))):=fun s d k l a e h=>(e.block g (aa a) (fun i=>by obtain⟨m,b,j⟩:=h g i.symm;rw[show d.heap[g]? =_ from a]at b;cases b;cases j)).trans a
def yc(o:Oper):Bool:=match o.op with
 |.defer _=>false
 |_=>true
theorem GA{a:Array Oper}(d:a.all yc=true): ∀(i:Nat) o c,a[i]? =some o->o.op≠ .defer c:=fun i o c b e=>by have f:i<a.size:=(J3.1 b).1;have:=(Array.all_eq_true.1 d) i f;rw[(J3.1 b).2]at this;unfold yc at this;rw[e]at this;cases this
theorem tB{P:Program}{y:Array Oper}{o:Oper}{a:Act}{w:World}{z:Act->World->Prop}{I:Exit->Act->World->Prop}{J:Prop}(K:o.guard=none)(d s:Operand)(e n:TypeId)
  (A:o.op=.call {callee:=.builtin .copy,args:= #[d,s],argTypes:= #[e,n]}) (f:TypeId) (B:P.underlying e=some (.slice f)) (C:(P.info? f).map (·.size)=some 1)
  (p q:Option Addr) (g r h t:Nat) (D:a.eval d=.slice p g r) (E:a.eval s=.slice q h t)
  (c i:Nat) (j:List Value) (k:TypeId) (u:w.heap[c]? =some (.cells j.toArray k (0,0))) (b:List Value) (F:b.length=Nat.min h g)
  (L:0<b.length->p=some ⟨c,i,none⟩/\ ∃l,q=some l/\ ∀(G:Nat) m,b[G]? =some m->w.cell? (l.add G)=some m)
  (M:i+b.length<=j.length) (N: ∀m∈b,m.oneCell'=true)
  (H: ∀v,Hid (v.heap[c]? =some (.cells (splice j i b).toArray k (0,0)))->w.grownBy v (some c)->z (a.put o.dst (goInt b.length)) v):
  if Region.wanted o (yielded y a.tmps)=true then Oper.wp P o a w z I else J:=by
 have O:Region.wanted o (yielded y a.tmps)=true:=by simp[Region.wanted,K]
 rw[Jo O];by_cases Q:b.length=0
 ·obtain rfl:b=[]:=KL Q;have x:=run_copy_none (P:=P) w e n o.type f p q g r h t B C (by simpa using F.symm);unfold Oper.wp;simp[execOp,A,resolve,invoke,builtin,D,E,x,Result.andThen];exact H w (show _=_ by simpa [splice]using u) ⟨rfl,rfl,rfl,Ji _,fun _ _ _=>rfl⟩
 ·obtain⟨rfl,l,rfl,R⟩:=L (by omega);have x:=run_copy_row (P:=P) w e n o.type f c i g r l h t j.toArray k b B C u F R (by simpa using M) N;unfold Oper.wp;simp[execOp,A,resolve,invoke,builtin,D,E,x,Result.andThen];exact H _ (show _=_ by simpa [splice]using setRow_heap w c _ _ k _ u) (by simpa using uG w c _)
theorem mk{w w':World}{g:Nat}(c:w.grownBy w' (some g)){b:Nat}(d:b<w.heap.size)(e:b≠g)(o:Nat):w'.cell? ⟨b,o,none⟩=w.cell? ⟨b,o,none⟩:=by simp only[World.cell?,c.block b d (fun a=>by injection a with a;exact e a)]
theorem BB{b:Type}(a:List b)(o:Nat)(cs:List b)(c:o+cs.length<=a.length):(splice a o cs).length=a.length:=by unfold splice;simp only[Jk,JU,J6];omega
theorem C3{k:Nat}(a:Fin k->List (List Int))(first:Fin k->Nat): ∀(pre:List (Fin k)) (p:Nat×List Value),(l8 a first p pre).1<=p.1
 | [],_=>Ji _
 |x::pre,p=>Jt (C3 a first pre (xZ a first p x)) (Nat.div_le_self _ _)
theorem AJ{k c:Nat}(a:Fin k->List (List Int))(first:Fin k->Nat)(d: ∀j,0<(a j).length)(e: ∀j r,r∈a j->first j+r.length<=c): ∀(pre:List (Fin k)) (p:Nat×List Value),p.2.length=c->(l8 a first p pre).2.length=c
 | [],_,b=>b
 |x::pre,p,b=>by
  refine AJ a first d e pre (xZ a first p x) ?_
  unfold xZ;have f:=Nat.mod_lt p.1 (d x);have g:(a x).getD (p.1%(a x).length) []∈a x:=by rw[JC,Jl f];exact Ky f
  have:=e x _ g;simp only;rw[BB _ _ _ (by rw[Jm,b];exact this),b]
theorem wx(w:World)(t m cap b n q:Nat)(ce:q<=3)(ed:b<=18)(hn:n<=8000000)(T:Fin q->ByteArray)(B J:Fin q->Nat)(c:Fin q->List (List Int))(first:Fin q->Nat)
  (bb:w.cell? ⟨t,2,none⟩=some (.slice (some ⟨m,0,none⟩) q cap)) (cf:w.cell? ⟨t,3,none⟩=some (.int .i64 (b:Nat))) (bc:t<w.heap.size) (ap:m<w.heap.size)
  (be: ∀j:Fin q,w.cell? ⟨m,j.1*3,none⟩=some (.string (T j))/\w.cell? ⟨m,j.1*3+1,none⟩=some (.pointer (some ⟨B j,J j,none⟩))/\w.cell? ⟨m,j.1*3+2,none⟩=some (.int .i64 (first j:Nat)))
  (bg: ∀j,B j<w.heap.size/\0<(c j).length/\(c j).length<=200/\ ∃ar,w.cell? ⟨B j,J j+2,none⟩=some ar/\bZ w ar (c j)) (bk: ∀j r,r∈c j->first j+r.length<=b):
  Calls prog 254 #[.pointer (some ⟨t,2,none⟩),.int .i64 (n:Nat)] w fun e w'=>e=.returned (.slice (some ⟨w.heap.size+1,0,none⟩) b b)/\Below w.heap.size w w'/\w'.heap[w.heap.size+1]? =some (.cells (l8 c first (n,List.replicate b (.int .i64 0)) (lC q)).2.toArray 3 (0,0)):=by
 obtain⟨cg,bl,bn⟩:=Jq.1 mw;simp only[JB]at bn;obtain⟨bq,br,bs⟩:=bn;obtain⟨bt,ch,bu,ci⟩:=aP bl bq br bs;clear bl bq br bs;obtain⟨au,bv,bx⟩:=aC be bg bk;clear be bg bk;refine(callsIn_wide (n:=6)).1 ?_;refine callsIn_of_wp_marks func254 rfl trivial ?_ rfl;simp only[ntmps254,Me,Ju,Kr,Nat.reduceAdd,Nat.reduceSub,LZ,L0,Mf,L8,LK,KS]
 gi_wp2_with (gi_at_make;refine p9 _ rfl _ _ 32 rfl (w.heap.size+1) 3 cg (.int .i64 0) 1 underlying32 bt ch bu .i64 .i64 _ _ b rfl rfl ?c1 ?c2 ?c3 ?c4 ?c5 ?_)
 case c1=>rfl
 case c2=>rfl
 case c3=>rw[U ci];omega
 case c4=>unfold maxLen;omega
 case c5=>simp
 intro h av V;rcases av.2 with⟨W,_⟩|⟨g,cap',cur,W,hge,hh,c1,c2,c3,c4⟩
 ·cases W
 injection W with X cj cl;injection X with X;injection X with X;subst X;have cp:cur.toList.length=b:=by rw[JP,c3];omega
 have bz:Hid (h.heap[w.heap.size+1]? =some (.cells cur.toList.toArray 3 (0,0))):=by unfold Hid;rw[hh]
 have cq:Hid (cur.toList=List.replicate b (.int .i64 0)):=by
  unfold Hid;rw[Lb,JJ (by omega)]at c4;rw[c4];simp only[madeCells];apply LV
  ·simp
  ·intro i h1 h2;simp[Nat.mod_one]
 have cr:Boxed h w.heap.size 3 (.int .i64 (n:Nat)):=(Boxed.new w 3 (.int .i64 (n:Nat))).kept V (fun e=>by cases e);have ax:Hid (Below w.heap.size w h):=((Jj w.heap.size w).alloc (Ji _) _).grown V (by simp) (fun l e=>by cases e);clear av V hh c1 c2 c3 c4 cj cl hge;generalize cur.toList=y at*;have cs:w.heap.size+1<h.heap.size:=aa bz;have ef:=(ax.cell (p:=⟨t,2,none⟩) bc).trans bb;have eg:t<h.heap.size:=Js bc ax.size;clear bb cf
 gi_wp2_with (refine⟨trivial,?_⟩;gi_at_call 297;refine(zQ Fence.wide _ trivial rfl _ _ _ _).mono ?_;rintro e w' ⟨rfl,rfl⟩)
 have bA:=(cr.alloc (.cells #[.slice (some ⟨w.heap.size+1,0,none⟩) b b] 32)).alloc (.cells #[.slice (some ⟨m,0,none⟩) q cap] 293);have bF:=(Boxed.new h 32 (.slice (some ⟨w.heap.size+1,0,none⟩) b b)).alloc (.cells #[.slice (some ⟨m,0,none⟩) q cap] 293);have ay:=Boxed.new (h.alloc (.cells #[.slice (some ⟨w.heap.size+1,0,none⟩) b b] 32)) 293 (.slice (some ⟨m,0,none⟩) q cap);have bG:((h.alloc (.cells #[.slice (some ⟨w.heap.size+1,0,none⟩) b b] 32)).alloc (.cells #[.slice (some ⟨m,0,none⟩) q cap] 293)).heap[w.heap.size+1]? =some (.cells y.toArray 3 (0,0)):=by rw[J9 _ _ _ (by simp;omega),J9 _ _ _ cs];exact bz
 have Y:Below w.heap.size w ((h.alloc (.cells #[.slice (some ⟨w.heap.size+1,0,none⟩) b b] 32)).alloc (.cells #[.slice (some ⟨m,0,none⟩) q cap] 293)):=(ax.alloc (by omega) _).alloc (by simp;omega) _;have ct:((h.alloc (.cells #[.slice (some ⟨w.heap.size+1,0,none⟩) b b] 32)).alloc (.cells #[.slice (some ⟨m,0,none⟩) q cap] 293)).heap.size=h.heap.size+2:=by simp
 simp only[Mk]at ay
 obtain⟨aA,aI⟩: ∃aA,(h.alloc (.cells #[.slice (some ⟨w.heap.size+1,0,none⟩) b b] 32)).alloc (.cells #[.slice (some ⟨m,0,none⟩) q cap] 293)=aA:=⟨_,rfl⟩
 rw[aI]at bA bF ay bG Y ct;rw[aI];clear aI
 refine wpIn_rangeFunc_ownH rfl (by omega) (gf:=323) (lb:= #[.pointer (some ⟨h.heap.size+1,0,none⟩)]) rfl trivial (enters_of func323 (by kernel_rfl) rfl)
  (BA Fence.wide _ trivial rfl (by omega) (h.heap.size+1) m q cap (fun l=>l=m∨l=h.heap.size+1) (.inl rfl) (.inr rfl) (fun j=>.string (T j)) (fun j=>.pointer (some ⟨B j,J j,none⟩)) (fun j=>.int .i64 (first j:Nat)) ce aA ay.cell (by omega) (by omega) (fun j=>⟨(Y.cell (p:=⟨m,j.1*3,none⟩) ap).trans (au j).1,(Y.cell (p:=⟨m,j.1*3+1,none⟩) ap).trans (au j).2.1,(Y.cell (p:=⟨m,j.1*3+2,none⟩) ap).trans (au j).2.2⟩))
  (fun d l=>d.trans l) ?kb (Jj _ _) (fun _=>rfl)
  (fun u f=>((Boxed f w.heap.size 3 (.int .i64 ((l8 c first (n,y) u).1:Nat))/\Boxed f h.heap.size 32 (.slice (some ⟨w.heap.size+1,0,none⟩) b b))/\f.heap[w.heap.size+1]? =some (.cells (l8 c first (n,y) u).2.toArray 3 (0,0)))/\Below w.heap.size w f)
  (fun _ _ _=>False)
  (OwnFrom.and (OwnFrom.and (OwnFrom.and (Own.from (boxed_own _ _ _) _) (Own.from (boxed_own _ _ _) _)) (Own.from (vx _ _ _) _)) (ownFrom_below (Ji _) (by omega)))
  (fun _ _ _ _ _ aJ _ _=>aJ)
  ⟨⟨⟨bA,bF⟩,bG⟩,Y⟩
  (fun a aL f=> ∃Bx,h.heap.size<Bx/\f.heap[Bx]? =some (.cells [.string (T a),.pointer (some ⟨B a,J a,none⟩),.int .i64 (first a:Nat)].toArray 423 (0,0))/\aL= {tmps:= #[.pointer (some ⟨t,2,none⟩),.int .i64 (n:Nat),undef,.pointer (some ⟨w.heap.size,0,none⟩),.slice none 0 0,.pointer (some ⟨h.heap.size,0,none⟩),undef,.pointer (some ⟨Bx,0,none⟩),undef,.pointer (some ⟨t,2,none⟩),.pointer (some ⟨t,2,none⟩),.pointer (some ⟨t,3,none⟩),.int .i64 (b:Nat),.slice (some ⟨w.heap.size+1,0,none⟩) b b,.pointer (some ⟨t,2,none⟩),.pointer (some ⟨t,2,none⟩),.pointer (some ⟨t,2,none⟩),.slice (some ⟨m,0,none⟩) q cap,.func (.func 323) #[] #[.pointer (some ⟨h.heap.size+1,0,none⟩)],.int .i64 (a.1:Nat),.agg #[.string (T a),.pointer (some ⟨B a,J a,none⟩),.int .i64 (first a:Nat)],undef,undef,undef,undef,undef,undef,undef,undef,undef,undef,undef,undef,undef,undef,undef,undef,undef,undef,undef,undef,undef,undef],defers:=[]})
  (fun a aL _ cu cv cz aJ V P=>by obtain⟨Bx,h1,h2,h3⟩:=aJ;exact⟨Bx,h1,vx Bx 423 (fun(_:Unit)=>[Value.string (T a),.pointer (some ⟨B a,J a,none⟩),.int .i64 (first a:Nat)]) () cu cv cz h2 V (fun r e=>(P r e).2),h3⟩)
  ?assign ?body ?done ?stop
 case kb=>
  intro f aN o ei cF av _ _;refine⟨by simp[World.putObj],fun l K en=>?_⟩;have cI:l≠aN:=by omega
  simp[World.putObj,cI.symm]
 case assign=>
  rintro aN u a f eo ⟨⟨⟨L,M⟩,N⟩,x⟩ aR;have ac:=M.lt
  gi_wp2
  exact aR _ _ ((KeepsOthers.alloc _ _).from _) ⟨by simp,fun l _ K=>J9 _ _ _ K⟩ ⟨⟨⟨L.alloc _,M.alloc _⟩,(J9 _ _ _ (aa N)).trans N⟩,x.alloc x.size _⟩ ⟨f.heap.size,ac,World.alloc_heap_new f _,rfl⟩
 case stop=>exact fun _ _ _ _ _ _ d=>d.elim
 case done=>
  rintro cL ep f eq rfl ⟨⟨⟨L,M⟩,N⟩,x⟩ aR;have er:=M.cell
  gi_wp2
  refine⟨by simp,.inl ⟨_,_,rfl,run_takeDeferred aR,?_⟩⟩;have bJ:=grownBy_putObj' f cL (.deferred none);refine⟨_,results_tmp rfl _ _ _,rfl,x.grown bJ x.size (fun l e=>by cases e;omega),?_⟩;rw[bJ.block _ (aa N) (fun e=>by injection e with e;omega),N,U cq]
 case body=>
  rintro aN u a aL f cF-⟨⟨⟨L,M⟩,N⟩,x⟩ ⟨Bx,es,bL,rfl⟩ et;obtain⟨bN,aT,cN,ar,aU,cR⟩:=(U bv) a;obtain⟨cT,cV,bS,cW⟩:=cR;obtain⟨ev,ex,rfl,cZ,bX⟩:=cV;rw[bS]at cZ bX aU;obtain⟨ad,aV,rfl,ac,c0⟩:=bX aT
  obtain⟨s,a0⟩: ∃s,s=(l8 c first (n,y) u).1:=⟨_,rfl⟩
  obtain⟨Z,a1⟩: ∃Z,Z=(l8 c first (n,y) u).2:=⟨_,rfl⟩
  rw[<-a0]at L;rw[<-a1]at N;have ae:s%(c a).length<(c a).length:=Nat.mod_lt _ aT
  obtain⟨r,P⟩: ∃r,(c a)[s%(c a).length]? =some r:=⟨_,Jl ae⟩
  obtain⟨b0,a2⟩: ∃b0,cT[s%(c a).length]? =some b0:=⟨_,Jl (by rw[bS];exact ae)⟩
  obtain⟨b1,b2,rfl,c6,b3⟩:=cW _ _ _ P a2;have a3:=(c0 _ ae).trans a2;have b4:=(U bx) a r (JL P);rw[Jm]at c6 b3 a3;have t0:=(x.cell (p:=⟨B a,J a+2,none⟩) bN).trans aU;have t1:=(x.cell (p:=⟨ad,aV+s%(c a).length,none⟩) ac).trans a3;have ez:B a<f.heap.size:=Js bN x.size;have c7:ad<f.heap.size:=Js ac x.size;obtain⟨a4,eN⟩:=blk bL;have eR:f.cell? ⟨Bx,1,none⟩=some (.pointer (some ⟨B a,J a,none⟩)):=a4 1;have a5:f.cell? ⟨Bx,2,none⟩=some (.int .i64 (first a:Nat)):=a4 2;have b5:=L.cell;have eT:=L.frozen;have r0:=M.cell;clear a4 aU a3
  gi_wp2_with fail
  obtain⟨l,K⟩: ∃l,l=(c a).length:=⟨_,rfl⟩
  obtain⟨H,aj⟩: ∃H,H=s%(c a).length:=⟨_,rfl⟩
  obtain⟨C,ak⟩: ∃C,C=first a:=⟨_,rfl⟩
  rw[<-aj,<-K]at ae;rw[<-aj]at P a2 t1;rw[<-K]at t0 aT cN;rw[<-ak]at a5 b4;obtain⟨b6,b7,c8⟩:=aC K aj ak;rw[<-K,<-ak];clear K aj ak;have eX:(s:Int).tmod (l:Int)=(H:Int):=by rw[Mc (by omega),b7,<-U b6];exact(Int.natCast_emod s l).symm
  have e0: ¬(l:Int)=0:=by omega
  have e1: ¬l=0:=by omega
  obtain⟨a9,b9⟩:=ag a0 a1;clear a0 a1;have e2:(0:Int)<=(H:Int):=by omega
  have e3:(H:Int)<(l:Int):=by omega
  have e4:(0:Int)<=(C:Int):=by omega
  have e5:(C:Int)<=(b:Int):=by omega
  have e6:IntKind.i64.wrap (H:Int)=(H:Int):=by unfold IntKind.wrap;simp[IntKind.bits,IntKind.signed];omega
  refine wpIn_region_any (by kernel_rfl) ?_;refine kJ (GA (by kernel_rfl)) ?hL _ _ _ _ (wpAny_of_held (S:=fun w'=>w'.cell? ⟨h.heap.size,0,none⟩=some (.slice (some ⟨w.heap.size+1,0,none⟩) b b)/\w'.cell? ⟨Bx,2,none⟩=some (.int .i64 (C:Nat))/\w'.cell? ⟨w.heap.size,0,none⟩=some (.int .i64 (s:Nat))/\w'.cell? ⟨ad,aV+H,none⟩=some (.slice b1 r.length b2)) _ _ _ _ ?_)
  case hL=>rintro⟨e7,A,h9⟩;exact h9
  have z:f.drew.cell? ⟨h.heap.size,0,none⟩=some (.slice (some ⟨w.heap.size+1,0,none⟩) b b)/\f.drew.cell? ⟨Bx,2,none⟩=some (.int .i64 (C:Nat))/\f.drew.cell? ⟨w.heap.size,0,none⟩=some (.int .i64 (s:Nat))/\f.drew.cell? ⟨ad,aV+H,none⟩=some (.slice b1 r.length b2):=⟨r0,a5,b5,t1⟩
  refine KX (i:=0) (oi:= {dst:=some 26,op:=Op.load 32 (Operand.tmp 5),type:=32,pos:= "rows.go:59",after:= #[],guard:=none}) (v:=?v0) rfl (by kernel_rfl) (by kernel_rfl) (by kernel_rfl) (fun _ _ _ d=>d) (Or.inl ⟨by rfl,?h0⟩) z ?r0
  case h0=>intro A k;obtain⟨D,E,F,G⟩:=k;go_simp;try(with_reducible rfl)
  simp only[Act.put,JM,JX,Ki]
  refine KX (i:=1) (oi:= {dst:=some 27,op:=Op.fieldAddr 423 (Operand.tmp 7) 2,type:=0,pos:= "rows.go:59",after:= #[],guard:=none}) (v:=?v1) rfl (by kernel_rfl) (by kernel_rfl) (by kernel_rfl) (fun _ _ _ d=>d) (Or.inl ⟨by rfl,?h1⟩) z ?r1
  case h1=>intro A k;obtain⟨D,E,F,G⟩:=k;go_simp;try(with_reducible rfl)
  simp only[Act.put,JM,JX,Ki]
  refine KX (i:=2) (oi:= {dst:=some 28,op:=Op.load 3 (Operand.tmp 27),type:=3,pos:= "rows.go:59",after:= #[{on:=1,ground:=Ground.data}],guard:=none}) (v:=?v2) rfl (by kernel_rfl) (by kernel_rfl) (by kernel_rfl) (fun _ _ _ d=>d) (Or.inl ⟨by rfl,?h2⟩) z ?r2
  case h2=>intro A k;obtain⟨D,E,F,G⟩:=k;go_simp;try(with_reducible rfl)
  simp only[Act.put,JM,JX,Ki]
  refine KX (i:=3) (oi:= {dst:=some 29,op:=Op.slice 32 (Operand.tmp 26) (some (Operand.tmp 28)) none none,type:=32,pos:= "rows.go:59",after:= #[{on:=0,ground:=Ground.data},{on:=2,ground:=Ground.data}],guard:=none}) (v:=?v3) rfl (by kernel_rfl) (by kernel_rfl) (by kernel_rfl) (fun _ _ _ d=>d) (Or.inl ⟨by rfl,?h3⟩) z ?r3
  case h3=>intro A k;obtain⟨D,E,F,G⟩:=k;go_simp;try(with_reducible rfl)
  simp only[Act.put,JM,JX,Ki]
  obtain⟨b',a'⟩: ∃b':Option Addr,b'=if b=C then some ⟨w.heap.size+1,0,none⟩else some ⟨w.heap.size+1,C,none⟩:=⟨_,rfl⟩
  rw[<-a'];have c9:=ab a';clear a'
  refine KX (i:=4) (oi:= {dst:=some 30,op:=Op.move (Operand.tmp 8),type:=42,pos:= "rows.go:59",after:= #[],guard:=none}) (v:=?v4) rfl (by kernel_rfl) (by kernel_rfl) (by kernel_rfl) (fun _ _ _ d=>d) (Or.inl ⟨by rfl,?h4⟩) z ?r4
  case h4=>intro A k;obtain⟨D,E,F,G⟩:=k;go_simp;try(with_reducible rfl)
  simp only[Act.put,JM,JX,Ki]
  refine KX (i:=5) (oi:= {dst:=some 31,op:=Op.load 3 (Operand.tmp 3),type:=3,pos:= "rows.go:59",after:= #[],guard:=none}) (v:=?v5) rfl (by kernel_rfl) (by kernel_rfl) (by kernel_rfl) (fun _ _ _ d=>d) (Or.inl ⟨by rfl,?h5⟩) z ?r5
  case h5=>intro A k;obtain⟨D,E,F,G⟩:=k;go_simp;try(with_reducible rfl)
  simp only[Act.put,JM,JX,Ki]
  refine KX (i:=6) (oi:= {dst:=some 32,op:=Op.move (Operand.tmp 8),type:=42,pos:= "rows.go:59",after:= #[],guard:=none}) (v:=?v6) rfl (by kernel_rfl) (by kernel_rfl) (by kernel_rfl) (fun _ _ _ d=>d) (Or.inl ⟨by rfl,?h6⟩) z ?r6
  case h6=>intro A k;obtain⟨D,E,F,G⟩:=k;go_simp;try(with_reducible rfl)
  simp only[Act.put,JM,JX,Ki]
  refine KX (i:=7) (oi:= {dst:=some 33,op:=Op.call {callee:=Callee.builtin Builtin.len,args:= #[Operand.tmp 32],argTypes:= #[42]},type:=3,pos:= "rows.go:59",after:= #[{on:=6,ground:=Ground.data}],guard:=none}) (v:=?v7) rfl (by kernel_rfl) (by kernel_rfl) (by kernel_rfl) (fun _ _ _ d=>d) (Or.inl ⟨by rfl,?h7⟩) z ?r7
  case h7=>intro A k;obtain⟨D,E,F,G⟩:=k;go_simp;try(with_reducible rfl)
  simp only[Act.put,JM,JX,Ki]
  refine KX (i:=8) (oi:= {dst:=some 34,op:=Op.binOp BinOp.rem 3 (Operand.tmp 31) (Operand.tmp 33) 3,type:=3,pos:= "rows.go:59",after:= #[{on:=5,ground:=Ground.data},{on:=7,ground:=Ground.data}],guard:=none}) (v:=?v8) rfl (by kernel_rfl) (by kernel_rfl) (by kernel_rfl) (fun _ _ _ d=>d) (Or.inl ⟨by rfl,?h8⟩) z ?r8
  case h8=>intro A k;obtain⟨D,E,F,G⟩:=k;go_simp;try(with_reducible rfl)
  simp only[Act.put,JM,JX,Ki]
  refine KX (i:=9) (oi:= {dst:=some 35,op:=Op.indexAddr 42 (Operand.tmp 30) (Operand.tmp 34),type:=0,pos:= "rows.go:59",after:= #[{on:=4,ground:=Ground.data},{on:=8,ground:=Ground.data}],guard:=none}) (v:=?v9) rfl (by kernel_rfl) (by kernel_rfl) (by kernel_rfl) (fun _ _ _ d=>d) (Or.inl ⟨by rfl,?h9⟩) z ?r9
  case h9=>intro A k;obtain⟨D,E,F,G⟩:=k;go_simp;try(with_reducible rfl)
  simp only[Act.put,JM,JX,Ki]
  refine KX (i:=10) (oi:= {dst:=some 36,op:=Op.load 32 (Operand.tmp 35),type:=32,pos:= "rows.go:59",after:= #[{on:=9,ground:=Ground.data}],guard:=none}) (v:=?v10) rfl (by kernel_rfl) (by kernel_rfl) (by kernel_rfl) (fun _ _ _ d=>d) (Or.inl ⟨by rfl,?h10⟩) z ?r10
  case h10=>intro A k;obtain⟨D,E,F,G⟩:=k;go_simp;try(with_reducible rfl)
  simp only[Act.put,JM,JX,Ki];refine wpAnyH_ready (rs:=[11]) (by kernel_rfl) (by simp) ?_
  refine AllReadyH.cons (o:= {dst:=some 37,op:=Op.call {callee:=Callee.builtin Builtin.copy,args:= #[Operand.tmp 29,Operand.tmp 36],argTypes:= #[32,32]},type:=3,pos:= "rows.go:59",after:= #[{on:=3,ground:=Ground.data},{on:=10,ground:=Ground.data}],guard:=none}) rfl (fun c' ca=>?_) AllReadyH.nil;have dd:Z.length=b:=by rw[U b9];exact AJ c first (fun j=>(bv j).2.1) bx u (n,y) cp
  refine tB rfl (.tmp 29) (.tmp 36) 32 32 rfl 3 underlying32 ?csz _ _ _ _ _ _ rfl rfl (w.heap.size+1) C Z 3 ?chg (aE r) ?cnn ?cps ?cft ?con ?_
  case csz=>rw[U bt];simp[U bu]
  case chg=>exact N
  case cnn=>rw[Jm];exact(Le (by omega)).symm
  case cft=>rw[Jm,dd];exact b4
  case con=>intro v W;obtain⟨e8,-,rfl⟩:=KM.1 W;rfl
  case cps=>
   intro cb;rw[Jm]at cb;obtain⟨al,an,rfl,df,dk⟩:=b3 cb;refine⟨c9.trans (Jn (by omega)),_,rfl,fun j v Q=>?_⟩;have ba:j<r.length:=by have:=(Jy.1 Q).1;rwa[Jm]at this
   rw[show(⟨al,an,none⟩:Addr).add j=⟨al,an+j,none⟩by simp[Addr.add]]
   show f.cell? ⟨al,an+j,none⟩=some v
   rw[x.cell (p:=⟨al,an+j,none⟩) df,dk j ba,Q]
  intro cc dp I;have dq:h.heap.size<f.heap.size:=M.lt;have ds:=aa bL;have dw:=x.size;refine ca.out _ _ ⟨(mk I dq (by omega) 0).trans r0,(mk I ds (by omega) 2).trans a5,(mk I L.lt (by omega) 0).trans b5,(mk I c7 (by omega) _).trans t1⟩ (fun dT=>?_);simp only[Act.put,JM,JX,Ki];refine wpAnyH_done (by kernel_rfl) ?_ _;clear z dT ca c'
  have R:f.grownBy cc (some (w.heap.size+1)):=⟨I.os,I.tape,I.output,I.size,I.block⟩
  have c1:Boxed cc w.heap.size 3 (.int .i64 (s:Nat)):=L.kept R (fun e=>by injection e with e;omega);have c2:=M.kept R (fun e=>by injection e with e;omega);have e9:=c1.cell;have e':=c1.frozen
  obtain⟨O,ao⟩: ∃O,O=s/l:=⟨_,rfl⟩
  have fa:(s:Int).tdiv (l:Int)=(O:Int):=by rw[Md (by omega),ao];exact(Int.natCast_ediv s l).symm
  have fb:O<=s:=by rw[ao];exact Nat.div_le_self _ _
  have d':=ab ao;clear ao;have fc:wrap64 (O:Int)=(O:Int):=by have:s<=8000000:=Jt (by rw[U a9];exact C3 c first u (n,y)) hn;unfold wrap64;omega
  gi_wp2
  refine⟨(KeepsFrom.of_grownBy R (fun j e=>by injection e with e;omega)).trans ((KeepsOthers.setCell _ _ _).from _),⟨by have:=R.size;simp[World.setCell];omega,fun j Q ba=>?_⟩,⟨⟨?_,?_⟩,?_⟩,?_⟩
  ·have cd:j≠w.heap.size/\j≠w.heap.size+1:=by rcases Q with Q|Q<;>omega
   rw[Jp _ _ _ _ (fun e=>cd.1 e),R.block j ba (fun e=>by injection e with e;exact cd.2 e)]
  ·rw[ya];have ea:(xZ c first (l8 c first (n,y) u) a).1=O:=by show(l8 c first (n,y) u).1/(c a).length=O;rw[<-U a9,<-U b6,U d']
   rw[ea];exact c1.set _
  ·exact c2.other (by omega) _
  ·rw[ya]
   have eb:(xZ c first (l8 c first (n,y) u) a).2=splice Z C (aE r):=by
    show splice (l8 c first (n,y) u).2 (first a) (aE ((c a).getD ((l8 c first (n,y) u).1%(c a).length) []))=_
    rw[<-U b9,<-U a9,<-U b7,<-U c8,JC,P];rfl
   rw[eb,Jp _ _ _ _ (by show w.heap.size+1≠w.heap.size;omega)];exact dp
  ·exact(x.grown R dw (fun j e=>by injection e with e;omega)).setCell (Ji _) _
end
section
open Go.RowKit Tryz
def iL(T:List Tb):Nat->List Sr->Prop
 |_,[]=>True
 |k,s::r=>s.first=k/\iL T (k+(bh T s).length) r
def go(T:List Tb)(a:List Sr):Nat:=(a.map fun b=>(bh T b).length).sum
theorem E4(T:List Tb)(a:List Sr)(s:Sr):go T (a++[s])=go T a+(bh T s).length:=by simp[go]
theorem rA(T:List Tb)(s:Sr): ∀(l:List Sr) (k:Nat),iL T k l->s.first=k+go T l->iL T k (l++[s])
 | [],k,_,a=>⟨by simpa [go]using a,trivial⟩
 |x::l,k,a,e=>⟨a.1,rA T s l _ a.2 (by rw[e];simp[go];omega)⟩
theorem rB(T:List Tb): ∀(l:List (Tk×Tk)) (f:Fs),iL T 0 f.ss->f.wd=go T f.ss->iL T 0 (l.foldl (bW T) f).ss/\(l.foldl (bW T) f).wd=go T (l.foldl (bW T) f).ss
 | [],_,a,e=>⟨a,e⟩
 |x::l,f,a,e=>by
  rw[List.foldl_cons];refine rB T l _ ?_ ?_
  ·unfold bW
   cases dz T x.1.text with
   |none=>exact a
   |some j=>exact rA T _ _ _ a (by rw[JV];exact e)
  ·unfold bW
   cases dz T x.1.text with
   |none=>exact e
   |some j=>simp only;rw[E4,e];rfl
theorem qa(T:List Tb)(l:List (Tk×Tk)):iL T 0 (aX T l).ss/\(aX T l).wd=go T (aX T l).ss:=rB T l _ trivial rfl
theorem i7(x:Nat)(v:Value)(r a:List Value):splice (List.replicate (x+r.length) v++a) x r=List.replicate x v++(r++a):=by unfold splice;rw[List.drop_left' (by simp),Ls (by simp),List.take_replicate,Le (by omega)]
theorem lk{a:List (List Int)}{w n:Nat}(c: ∀r∈a,r.length=w)(d:0<a.length):(aE (a.getD (n%a.length) [])).length=w:=by have b:=Nat.mod_lt n d;rw[Jm,JC,Jl b];exact c _ (Ky b)
theorem Ib(T:List Tb)(n:Nat): ∀(d:List Sr),d.length<=3->iL T 0 d->(∀s∈d,∀r∈(T.getD s.tab bd).rows,r.length=(bh T s).length)->(∀s∈d,0<(T.getD s.tab bd).rows.length)->
  (l8 (fun j:Fin d.length=>(T.getD (d[j]).tab bd).rows) (fun j=>(d[j]).first) (n,List.replicate (go T d) (.int .i64 0)) (lC d.length)).2=aE (gj (aK T d) n)
 | [],_,_,_,_=>rfl
 | [a],_,hf,hr,hp=>by
  have e:=lk (n:=n) (hr a (by simp)) (hp a (by simp))
  show splice (List.replicate (go T [a]) (.int .i64 0)) a.first (aE ((T.getD a.tab bd).rows.getD (n%(T.getD a.tab bd).rows.length) []))=aE ((T.getD a.tab bd).rows.getD (n/cU []%(T.getD a.tab bd).rows.length) []++[])
  have i:=i7 0 (.int .i64 0) (aE ((T.getD a.tab bd).rows.getD (n%(T.getD a.tab bd).rows.length) [])) [];rw[e,JD]at i;rw[hf.1,show go T [a]=0+(bh T a).length by simp[go],i];rw[show cU []=1 from rfl,MW];simp
 | [a,b],_,hf,hr,hp=>by
  have e:=lk (n:=n) (hr b (by simp)) (hp b (by simp));have h:=lk (n:=n/(T.getD b.tab bd).rows.length) (hr a (by simp)) (hp a (by simp))
  show splice (splice (List.replicate (go T [a,b]) (.int .i64 0)) b.first (aE ((T.getD b.tab bd).rows.getD (n%(T.getD b.tab bd).rows.length) []))) a.first (aE ((T.getD a.tab bd).rows.getD (n/(T.getD b.tab bd).rows.length%(T.getD a.tab bd).rows.length) []))=aE ((T.getD a.tab bd).rows.getD (n/cU [(T.getD b.tab bd).rows]%(T.getD a.tab bd).rows.length) []++((T.getD b.tab bd).rows.getD (n/cU []%(T.getD b.tab bd).rows.length) []++[]))
  have f:=i7 (0+(bh T a).length) (.int .i64 0) (aE ((T.getD b.tab bd).rows.getD (n%(T.getD b.tab bd).rows.length) [])) [];rw[e,JD]at f;have g:=i7 0 (.int .i64 0) (aE ((T.getD a.tab bd).rows.getD (n/(T.getD b.tab bd).rows.length%(T.getD a.tab bd).rows.length) [])) (aE ((T.getD b.tab bd).rows.getD (n%(T.getD b.tab bd).rows.length) [])++[]);rw[h]at g;rw[hf.1,hf.2.1,show go T [a,b]=0+(bh T a).length+(bh T b).length by simp[go],f,g];rw[show cU []=1 from rfl,MW,show cU [(T.getD b.tab bd).rows]=(T.getD b.tab bd).rows.length from MX _];simp
 | [a,b,c],_,hf,hr,hp=>by
  have e:=lk (n:=n) (hr c (by simp)) (hp c (by simp));have h:=lk (n:=n/(T.getD c.tab bd).rows.length) (hr b (by simp)) (hp b (by simp));have l:=lk (n:=n/(T.getD c.tab bd).rows.length/(T.getD b.tab bd).rows.length) (hr a (by simp)) (hp a (by simp))
  show splice (splice (splice (List.replicate (go T [a,b,c]) (.int .i64 0)) c.first (aE ((T.getD c.tab bd).rows.getD (n%(T.getD c.tab bd).rows.length) []))) b.first (aE ((T.getD b.tab bd).rows.getD (n/(T.getD c.tab bd).rows.length%(T.getD b.tab bd).rows.length) []))) a.first (aE ((T.getD a.tab bd).rows.getD (n/(T.getD c.tab bd).rows.length/(T.getD b.tab bd).rows.length%(T.getD a.tab bd).rows.length) []))=aE ((T.getD a.tab bd).rows.getD (n/cU [(T.getD b.tab bd).rows,(T.getD c.tab bd).rows]%(T.getD a.tab bd).rows.length) []++((T.getD b.tab bd).rows.getD (n/cU [(T.getD c.tab bd).rows]%(T.getD b.tab bd).rows.length) []++((T.getD c.tab bd).rows.getD (n/cU []%(T.getD c.tab bd).rows.length) []++[])))
  have f:=i7 (0+(bh T a).length+(bh T b).length) (.int .i64 0) (aE ((T.getD c.tab bd).rows.getD (n%(T.getD c.tab bd).rows.length) [])) [];rw[e,JD]at f;have g:=i7 (0+(bh T a).length) (.int .i64 0) (aE ((T.getD b.tab bd).rows.getD (n/(T.getD c.tab bd).rows.length%(T.getD b.tab bd).rows.length) [])) (aE ((T.getD c.tab bd).rows.getD (n%(T.getD c.tab bd).rows.length) [])++[]);rw[h]at g;have k:=i7 0 (.int .i64 0) (aE ((T.getD a.tab bd).rows.getD (n/(T.getD c.tab bd).rows.length/(T.getD b.tab bd).rows.length%(T.getD a.tab bd).rows.length) [])) (aE ((T.getD b.tab bd).rows.getD (n/(T.getD c.tab bd).rows.length%(T.getD b.tab bd).rows.length) [])++(aE ((T.getD c.tab bd).rows.getD (n%(T.getD c.tab bd).rows.length) [])++[]));rw[l]at k;rw[hf.1,hf.2.1,hf.2.2.1,show go T [a,b,c]=0+(bh T a).length+(bh T b).length+(bh T c).length by simp[go];omega,f,g,k];rw[show cU []=1 from rfl,MW,show cU [(T.getD c.tab bd).rows]=(T.getD c.tab bd).rows.length from MX _,show cU [(T.getD b.tab bd).rows,(T.getD c.tab bd).rows]=(T.getD c.tab bd).rows.length*(T.getD b.tab bd).rows.length from by simp[cU,Nat.mul_comm],<-Nat.div_div_eq_div_mul];simp
 |_::_::_::_::_,m,_,_,_=>by simp at m
theorem vy(T:List Tb): ∀(b:List Sr) (k:Nat),iL T k b-> ∀s∈b,s.first+(bh T s).length<=k+go T b
 | [],_,_,s,a=>by cases a
 |x::l,k,c,s,a=>by
  have e:go T (x::l)=(bh T x).length+go T l:=by simp[go]
  rcases JG.1 a with rfl|a
  ·rw[c.1,e];omega
  ·have:=vy T l _ c.2 s a;rw[e];omega
structure yd(c:Fc)(T:List Tb)(ss:List Sr)(wd:Nat):Prop where
 len:T.length=c.T.length
 few: ∀t∈T,t.rows.length<=200
 shape: ∀t∈T,∀r∈t.rows,r.length=t.cols.length
 firsts:iL T 0 ss
 wide:wd=go T ss
theorem ll{T:List Tb}{j:Nat}(a:j<T.length):T.getD j bd∈T:=by rw[JC,Jl a];exact Ky a
theorem GB(p:World)(q:Fx)(c:Fc)(b:List Sr)(f:Nat)(E:List (List (List Int)->List Int))(F:List (List Int->Bool))(h:sa p q c b f E F)(G:0<b.length)(w:World)(k:gh p q w)(T:List Tb)(H:Nat)(I:bp w (.slice (some ⟨c.tb,c.tof,none⟩) T.length H) T)(d:yd c T b f)(r: ∀s∈b,0<(T.getD s.tab bd).rows.length)(n:Nat)(hn:n<=8000000):
  Calls prog 254 #[.pointer (some ⟨c.fb,2,none⟩),.int .i64 (n:Nat)] w fun e w'=>e=.returned (.slice (some ⟨w.heap.size+1,0,none⟩) f f)/\Below w.heap.size w w'/\w'.heap[w.heap.size+1]? =some (.cells (aE (gj (aK T b) n)).toArray 3 (0,0)):=by
 obtain⟨S,V,W,X,Y,Z,J,t,-,-⟩:=h.lies;have u:=k.new _ _ J;have K:=aa u;obtain⟨v,-⟩:=blk u;have j: ∀s∈b,s.tab<T.length:=fun s l=>by rw[d.len];exact h.ok s l
 have split: ∀a:Fin b.length,b=b.take a.1++b[a]::b.drop (a.1+1):=fun a=>by have:=KK a.1 b;rw[Kz a.2]at this;exact this.symm
 have L: ∀a:Fin b.length,(b.take a.1).length=a.1:=fun a=>by rw[JU];have:=a.2;omega
 obtain⟨x,y,rfl,M,-,-,-⟩:=t.cell3 k (split ⟨0,G⟩);have N:w.cell? ⟨c.fb,2,none⟩=some (.slice (some ⟨x,0,none⟩) b.length y):=v 2;have O:w.cell? ⟨c.fb,3,none⟩=some (.int .i64 (f:Nat)):=v 3;refine(wx w c.fb x y f n b.length h.few h.wide.1 hn (fun a=>(b[a]).alias) (fun _=>c.tb) (fun a=>c.tof+(b[a]).tab*3) (fun a=>(T.getD (b[a]).tab bd).rows) (fun a=>(b[a]).first) N O K M ?_ ?_ ?_).mono ?_
 ·intro a;obtain⟨ac,ad,e,-,z,A,B⟩:=t.cell3 k (split a);injection e with i _ _;injection i with i;injection i with i;subst i;rw[L a]at z A B;exact⟨z,A,B⟩
 ·intro a;have g:=Ky a.2;obtain⟨P,ae,Q,-,-,t3,-,m⟩:=I.tab (j _ g);exact⟨P,r _ g,d.few _ (ll (j _ g)),Q,t3,m⟩
 ·intro a C m;have g:=Ky a.2;have D:(b[a]).first+(bh T (b[a])).length<=0+go T b:=vy T b 0 d.firsts _ g;have o:C.length=(bh T (b[a])).length:=d.shape _ (ll (j _ g)) C m;rw[d.wide,o];omega
 ·rintro e w' ⟨D,o,R⟩;refine⟨D,o,?_⟩;rw[R,d.wide,Ib T n b h.few d.firsts (fun s l=>d.shape _ (ll (j s l))) r]
def nd:Nat->Nat
 |0=>0
 |1=>1
 |2=>2
 |3=>3
 |4=>5
 |5=>6
 |6=>7
 |7=>8
 |8=>4
 |_=>9
structure nN(a:Nat->Addr)(w:World):Prop where
 cell: ∀j,j<10->w.cell? ⟨nd j,0,none⟩=some (.iface 496 (.pointer (some (a j))))
 row: ∀j,j<10-> ∃c t,w.heap[(a j).block]? =some (.cells c t (0,0))
 ne: ∀i j,i<10->j<10->i≠j->a i≠a j
theorem qK: ∀j,j<10->tw (nd j)=true:=by decide
theorem GC: ∀i,i<10-> ∀j,j<10->i≠j->nd i≠nd j:=by decide
theorem cJ.sents{a:Nat->Addr}{f:Nat}{w:World}(c:cJ a f w):nN (fun j=>a (nd j)) w:=
 ⟨fun j b=>c.cell _ (qK j b),fun j b=>c.row _ (qK j b),fun i j d b e=>c.ne _ _ (qK i d) (qK j b) (GC i d j b e)⟩
theorem nN.keep{a:Nat->Addr}{w w':World}(c:nN a w)(e:Below w.heap.size w w'):nN a w':=by
 refine⟨fun b d=>?_,fun b d=>?_,c.ne⟩
 ·have f:=c.cell b d;have h:nd b<w.heap.size:=JR w _ f;rw[e.cell (p:=⟨nd b,0,none⟩) h];exact f
 ·obtain⟨i,j,g⟩:=c.row b d;exact⟨i,j,by rw[e.block _ (aa g)];exact g⟩
def gT(a:Nat->Addr)(n:Int):Value:=if n=0 then .nilIface else .iface 496 (.pointer (some (a (n-1).toNat)))
theorem ye(a:Nat->Addr)(t:Tb)(s J u:Value)(ahead:List Tb)(w:World)(K:nN a w)(L:aS w s (aB t.cols))(M:t.cols.length<=lX s)(N:bZ w J t.rows)(O:bp w u ahead):
  Calls prog 91 #[.agg #[.string t.name,s,J],u] w fun e w'=>e=.returned (gT a (p6 t ahead))/\Below w.heap.size w w':=by
 obtain⟨h,P,Q,ae,aj⟩:=dD K L N O M;obtain⟨v,x,rfl,R,_⟩:=L;obtain⟨ar,⟨S,T,rfl,V,_⟩,y,_⟩:=N;rw[Jm]at R;simp only[Jm]at*;rw[y]at V;rw[y]at Q;rw[y];unfold maxLen at R V;clear K O M;have W:w.cell? ⟨3,0,none⟩=some (.iface 496 (.pointer (some (a 3)))):=h.cell 3 (by decide);have z:w.cell? ⟨7,0,none⟩=some (.iface 496 (.pointer (some (a 6)))):=h.cell 6 (by decide);have X:w.cell? ⟨4,0,none⟩=some (.iface 496 (.pointer (some (a 8)))):=h.cell 8 (by decide);have A:w.cell? ⟨9,0,none⟩=some (.iface 496 (.pointer (some (a 9)))):=h.cell 9 (by decide);have au:3<w.heap.size:=JR w _ W;have ak:7<w.heap.size:=JR w _ z;have av:4<w.heap.size:=JR w _ X;have Y:9<w.heap.size:=JR w _ A;have c:Hid (Below w.heap.size w (w.alloc (.cells #[.string t.name,.slice v t.cols.length x,.slice S t.rows.length T] 44))):=(Jj _ _).alloc (Ji _) _;go_enter func91,ntmps91;go_wp2_with fail;refine(sR t.name _).mono ?_;rintro e i ⟨rfl,B⟩;subst B
 cases j:dV t.name.data.toList with
 |false=>
  have f:=ab j;clear j;go_wp2;go_ret;refine⟨?_,c⟩;have e:p6 t ahead=4:=by unfold p6;rw[U f];rfl
  rw[e];rfl
 |true=>
  have f:=ab j;clear j;go_wp2_with fail;refine(ws _ t.cols _ (by exact P.keep c)).mono ?_;rintro e i ⟨rfl,B⟩;subst B
  cases k:t.cols.any (fun al=> !dV al.data.toList)with
  |true=>
   have l:=ab k;clear k;go_wp2;go_ret;refine⟨?_,c⟩;have e:p6 t ahead=4:=by unfold p6;rw[U f,U l];rfl
   rw[e];rfl
  |false=>
   have l:=ab k;clear k;by_cases ax:t.cols.length<1∨6<t.cols.length∨200<t.rows.length
   ·have d:Hid (p6 t ahead=9):=by
     unfold Hid p6;rw[U f,l,Jn (by simp),Jo];simp only[J8,JQ];omega
    by_cases d1:t.cols.length<1
    ·have C:((t.cols.length:Int)==0)=true:=by rw[KD];omega
     go_wp2;go_ret;exact⟨by rw[U d];rfl,c⟩
    ·have C:((t.cols.length:Int)==0)=false:=by rw[Kb];omega
     by_cases d2:6<t.cols.length
     ·have D:decide ((6:Int)<(t.cols.length:Int))=true:=by simp;omega
      go_wp2;go_ret;exact⟨by rw[U d];rfl,c⟩
     ·have D:decide ((6:Int)<(t.cols.length:Int))=false:=by simp;omega
      have Z:decide ((200:Int)<(t.rows.length:Int))=true:=by simp;omega
      go_wp2;go_ret;exact⟨by rw[U d];rfl,c⟩
   ·have C:((t.cols.length:Int)==0)=false:=by rw[Kb];omega
    have D:decide ((6:Int)<(t.cols.length:Int))=false:=by simp;omega
    have Z:decide ((200:Int)<(t.rows.length:Int))=false:=by simp;omega
    have d:Hid (p6 t ahead=if ahead.any (fun E=>E.name.toList==t.name.toList)||jL [] t.cols then 7 else if t.rows.any (fun F=>decide (F.length≠t.cols.length))then 10 else 0):=by unfold Hid p6;rw[U f,l,Jn (by simp),Jn];simp only[J8,JQ];omega
    go_wp2_with fail;refine(xR u ahead t.name _ (by exact ae.keep c)).mono ?_;rintro e i ⟨rfl,G⟩;have b:Hid (Below w.heap.size w i):=c.trans (G.mono (by simp));have m:Hid (i.heap[w.heap.size]? =some (.cells #[.string t.name,.slice v t.cols.length x,.slice S t.rows.length T] 44 (0,0))):=by unfold Hid;rw[G.block _ (by simp)];exact af rfl
    have an:=(blk m).1;have ao:=aa m;rw[<-b.cell (p:=⟨7,0,none⟩) ak]at z;rw[<-b.cell (p:=⟨9,0,none⟩) Y]at A;clear G W X C D Z
    cases n:ahead.any (fun E=>E.name.toList==t.name.toList)with
    |true=>
     have g:=ab n;clear n;go_wp2;go_ret;refine⟨?_,b⟩;have e:p6 t ahead=7:=by rw[U d,U g];rfl
     rw[e];rfl
    |false=>
     have g:=ab n;clear n;go_wp2_with fail;refine(xS _ t.cols _ (by exact P.keep b) aj).mono ?_;rintro e ac ⟨rfl,ap⟩;obtain rfl:=ap.symm
     cases o:jL [] t.cols with
     |true=>
      have q:=ab o;clear o;go_wp2;go_ret;refine⟨?_,b⟩;have e:p6 t ahead=7:=by rw[U d,g,U q];rfl
      rw[e];rfl
     |false=>
      have q:=ab o;clear o;go_wp2_with fail;refine(zI _ t.rows t.name v t.cols.length x _ w.heap.size _ (by exact Q.keep b) (by exact m)).mono ?_;rintro e ac ⟨rfl,H⟩;have ad:Hid (Below w.heap.size w ac):=b.trans (H.mono b.size);rw[<-H.cell (p:=⟨9,0,none⟩) (Js Y b.size)]at A;clear H an ao z m
      cases r:t.rows.any (fun F=>decide (F.length≠t.cols.length))with
      |true=>
       have I:=ab r;clear r;go_wp2;go_ret;refine⟨?_,ad⟩;have e:p6 t ahead=10:=by rw[U d,g,q,U I];rfl
       rw[e];rfl
      |false=>
       have I:=ab r;clear r;go_wp2;go_ret;refine⟨?_,ad⟩;have e:p6 t ahead=0:=by rw[U d,g,q,U I];rfl
       rw[e];rfl
theorem vz(a:Nat->Addr)(u:Value)(l:List Tb)(w:World)(o:nN a w)(v:bp w u l):
  Calls prog 58 #[u] w fun e w'=>e=.returned (gT a (bT l))/\Below w.heap.size w w':=by
 obtain⟨S,T⟩:=ag o v;have x:w.cell? ⟨4,0,none⟩=some (.iface 496 (.pointer (some (a 8)))):=o.cell 8 (by decide);have ay:4<w.heap.size:=JR w _ x;clear o;obtain⟨aA,y,rfl,V,aI,z⟩:=v;unfold maxLen at V;have W:=ab z;clear z;by_cases A:4<l.length
 ·have B:decide ((4:Int)<(l.length:Int))=true:=by simp;omega
  have j:Hid (bT l=9):=by unfold Hid bT;rw[Jo A]
  go_enter func58,ntmps58;go_wp2;go_ret;exact⟨by rw[U j];rfl,Jj _ _⟩
 ·have B:decide ((4:Int)<(l.length:Int))=false:=by simp;omega
  have j:Hid (bT l=dR [] l):=by unfold Hid bT;rw[Jn A]
  go_enter func58,ntmps58;go_wp2_with fail;clear B x
  go_loopg [12] l.length (fun X Y Z=> ∃b d,l=b++d/\X=d.length/\Y=.int .i64 (b.length:Nat)/\bT l=dR b d/\Below w.heap.size w Z)
  case atStart=>exact⟨[],l,rfl,rfl,rfl,j,Jj _ _⟩
  case round=>
   clear j;obtain⟨b,d,q,rfl,rfl,C,D⟩:=hrel;have E:b.length+d.length=l.length:=by rw[q,Jk]
   obtain⟨r,s,f⟩:=aC q C D;clear q C D
   cases d with
   |nil=>
    have ac:decide (b.length<l.length)=false:=by simp at E⊢;omega
    go_wp2;go_ret;exact⟨by rw[U s];rfl,f⟩
   |cons c d=>
    rw[Ju]at E;have ac:decide (b.length<l.length)=true:=by simp;omega
    obtain⟨k,m,rfl,t,F⟩:=(U W) (by omega)
    obtain⟨aJ,aL,ad,ae,G,H⟩:=F b.length c (by rw[U r];simp);rw[<-f.cell (p:=⟨k,m+b.length*3,none⟩) t]at ae;rw[<-f.cell (p:=⟨k,m+b.length*3+1,none⟩) t]at G;rw[<-f.cell (p:=⟨k,m+b.length*3+2,none⟩) t]at H;obtain⟨aN,aR,h,I,J,K⟩:=ad;injection h with _ h;injection h with aj h;injection h with ak _;subst aj ak;obtain⟨L,M,N⟩:=aC I K J;have al:Hid (l=(b++[c])++d):=by unfold Hid;rw[U r];simp
    have an:Hid (bp w (.slice (some ⟨k,m,none⟩) b.length y) b):=by have O:=U T;rw[U r]at O;exact O.ahead
    obtain⟨ao,ap,rfl,_,_⟩:=I;obtain⟨aT,⟨ar,au,rfl,_,_⟩,av,_⟩:=K;rw[av]at M H;rw[Jm]at L N G;clear F J;have aU:b.length<=y:=by omega
    go_wp2_with fail;have g:Hid (Below w.heap.size w (wr.alloc (.cells #[.string c.name,.slice ao c.cols.length ap,.slice ar c.rows.length au] 44)).drew):=(f.alloc f.size _).drew
    go_region_with (go_at_call 91;refine(ye a c _ _ _ b _ (by exact S.keep g) (by exact L.keep g) (by exact N) (by exact M.keep g) (by exact an.keep g)).mono ?_;rintro e ax ⟨rfl,P⟩;have Q:Hid (Below w.heap.size w ax):=g.trans (P.mono g.size);clear P)
    by_cases i:p6 c b=0
    ·have n:Hid (bT l=dR (b++[c]) d):=by unfold Hid;rw[U s,dR,Jo i]
     rw[show gT a (p6 c b)=.nilIface from by unfold gT;rw[Jo i]]
     all_goals
      go_wp2;go_roundg d.length
      case measure=>simp
      case rel=>refine⟨b++[c],d,al,rfl,?_,n,Q⟩;rw[Jk];go_num
    ·have n:Hid (gT a (bT l)=gT a (p6 c b)):=by unfold Hid;rw[U s,dR,Jn i]
     have R:gT a (p6 c b)=.iface 496 (.pointer (some (a (p6 c b-1).toNat))):=by unfold gT;rw[Jn i]
     rw[R]at n⊢;clear R i;generalize a (p6 c b-1).toNat=aV at*
     all_goals
      go_wp2;go_ret;exact⟨by rw[U n];rfl,Q⟩
end
end Go.Proofs.YtfkeddkfegaeiaaGreatDoor
