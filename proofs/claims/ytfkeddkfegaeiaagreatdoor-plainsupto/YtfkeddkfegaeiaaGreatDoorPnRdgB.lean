import Derived.Test.YtfkeddkfegaeiaaGreatDoorPnNwN
set_option maxRecDepth 100000
set_option maxHeartbeats 20000000
namespace Go.Proofs.YtfkeddkfegaeiaaGreatDoor
section
open Go.RowKit Go.MuLone Go.Maps Go.WideMaps Tryz
theorem BF(s:ByteArray)(w:World)(c:s.size<=1000):Calls prog 78 #[.string s] w fun e w'=>e=.returned (.string s)/\Below w.heap.size w w':=by go_enter func78,ntmps78;go_wp2_with fail;refine(stringslite_Clone s _ (by omega)).mono ?_;rintro e d ⟨rfl,a⟩;have b:=ab a;clear a;go_wp2;go_ret;exact⟨rfl,b⟩
theorem C8(s:ByteArray)(a:Nat->Addr)(f:Nat)(w:World)(g:fD a f w)(h:s.size<=1000)(X:cH)(c:cP s=.ok X):
  Calls prog 36 #[.string s] w fun e w'=> ∃b,e=.returned (.tuple #[.pointer (some ⟨b,0,none⟩),.nilIface])/\de w' w.heap.size (.pointer (some ⟨b,0,none⟩)) X/\Below w.heap.size w w':=by
 unfold cP at c
 cases d:fH s with
 |error q=>rw[d]at c;cases c
 |ok i=>rw[d]at c;obtain⟨j,k⟩:=jo d;refine(AF s a f w g h i j d k (.ok X) c.symm).mono ?_;rintro e w' ⟨l,r,rfl,m⟩;obtain⟨b,n,o,rfl,p⟩:=m;exact⟨b,rfl,⟨b,n,o,rfl,p⟩,l⟩
theorem de.off3{w w':World}{lo b p c:Nat}{v:Value}{x:cH}(h:de w lo v x)(d:aF p c w w')(r:p<lo)(s:c<lo)(a:b<=lo):de w' b v x:=by have e:aw qT lo w w':=fun i t u y j _=>d.block i (aa j) (by omega) (by omega);obtain⟨f,k,l,m,n,g,o,q⟩:=h;exact⟨f,k,l,m,Jt a n,(d.block f (aa g) (by omega) (by omega)).trans g,o.keep a e,q.keep a e.sel⟩
theorem de.off2{w w':World}{lo p a:Nat}{v:Value}{x:cH}(b:de w lo v x)(c:aF p a w w')(d:p<lo)(e:a<lo):de w' lo v x:=b.off3 c d e (Ji _)
theorem C9{P:Program}{k:TypeId}{R:Value->Option (DataW Value×List MemPlace)}{b n:Nat}{a:DataW Value}{w w':World}(c:w.ownsMap P k R b n a)(d:Below w.heap.size w w'):w'.ownsMap P k R b n a:=by have e:=c.lt;obtain⟨f,g,h,i,j,l⟩:=c;exact⟨f,g,(d.block b e).trans h,i,j,l⟩
structure Qy(w0:World)(tv:Value)(qb mb:Nat)(x y m:Int)(n:Nat)(D:DataW Value)(W:World):Prop where
 blk:W.heap[qb]? =some (.cells (dr tv x y mb m) 140 (0,0))
 map:W.ownsMap prog 9 l9 mb n D
 off:aF qb mb w0 W
theorem Qy.below{d W W':World}{e:Value}{b f n:Nat}{x g m:Int}{h:DataW Value}(a:Qy d e b f x g m n h W)(c:Below W.heap.size W W'):Qy d e b f x g m n h W':=
 ⟨(c.block b (aa a.blk)).trans a.blk,C9 a.map c,a.off.trans (Below.off2 c)⟩
theorem Qy.set{f W:World}{g:Value}{d e n:Nat}{x h m:Int}{i:DataW Value}(b:Qy f g d e x h m n i W){c o:Nat}(q:f.heap.size<=c)(r:c≠d)(s:c≠e)(u:Value):Qy f g d e x h m n i (W.setCell ⟨c,o,none⟩ u):=
 ⟨by rw[Jp _ _ _ _ (by show d≠c;omega)];exact b.blk,b.map.setCell (a:=⟨c,o,none⟩) (by show e≠c;omega) u,⟨b.off.os,b.off.tape,b.off.output,by simpa [World.setCell]using b.off.size,fun j k l p=>by rw[Jp _ _ _ _ (by show j≠c;omega)];exact b.off.block j k l p⟩⟩
theorem Da(a:Nat->Addr)(j:Nat)(w:World)(aj:cJ a j w)(c d n:Nat)(ak:j<=c)(al:j<=d)(h:DataW Value)(s:ByteArray)(I:s.size<=1000)(X:cH)(an:cP s=.ok X)(k:Value)(l m:Int)(a1:0<=m/\m<1000000000)(hn:n<1000000000)(J:d≠c)
  (u:w.heap[c]? =some (.cells (dr k 0 l d m) 140 (0,0))) (A:w.ownsMap prog 9 l9 d n h) (K:Maps.has h (.string s.data.toList)=false) (L: ∀ao,h.atKey (.string s.data.toList) ao=ao):
  Calls prog 50 #[.pointer (some ⟨c,1,none⟩),.string s] w fun e w'=> ∃b,e=.returned (.tuple #[.pointer (some ⟨b,0,none⟩),.nilIface])/\de w' w.heap.size (.pointer (some ⟨b,0,none⟩)) X/\w'.heap[c]? =some (.cells (dr k 0 l d (m+1)) 140 (0,0))/\w'.ownsMap prog 9 l9 d (n+1) (h.put (.string s.data.toList) (.held (.agg #[.pointer (some ⟨b,0,none⟩),.nilIface])))/\aF c d w w':=by
 have a2:=Lo (P:=prog) underlying9 (s:=s) (by unfold maxLen;omega);obtain⟨q,v⟩:=blk u;have be:=aa u;have bg:=A.lt;have B:w.cell? ⟨c,1,none⟩=some (.int .i32 0):=q 1;have f1:w.frozen? ⟨c,1,none⟩=false:=v 1;have a3:w.cell? ⟨c,3,none⟩=some (.map (some d)):=q 3;obtain⟨a4,a5,M,a9,bk,bl,N⟩:=sq u A aj an K L (A.setCell (a:=⟨c,1,none⟩) J (.int .i32 1));have ap:=am (off:=1) u (.int .i32 1);have ar:Hid ((w.setCell ⟨c,1,none⟩ (.int .i32 1)).heap[c]? =some (.cells (dr k 1 l d m) 140 (0,0))):=ap;have au:Hid (aF c d w (w.setCell ⟨c,1,none⟩ (.int .i32 1))):=aF.setCell c d w 1 _;have a':(Instr.lookup 136 (.map (some d)) (.string s) true).run prog (w.setCell ⟨c,1,none⟩ (.int .i32 1))=.ok (.tuple #[.agg #[.pointer none,.nilIface],.bool false]) (w.setCell ⟨c,1,none⟩ (.int .i32 1)):=by obtain⟨bn,bq,ba,g⟩:=N.look_ok lw (t:=136) (e:=209) underlying136 (zeroValue209 _) rfl a2;rw[L]at g;injection g with g;injection g with g _;injection g with g;rw[ba,K,g]
 clear u A aj an K L q v ap
 go_enter_defers func50,ntmps50
 go_wp2_with (go_at_call 76;refine(Mb jA ⟨c,1,none⟩ _ B f1).mono ?_;rintro e w' ⟨rfl,rfl⟩);have av:Hid (Qy w k c d 1 l m n h ((w.setCell ⟨c,1,none⟩ (.int .i32 1)).alloc (.cells #[.pointer none,.nilIface] 209))):=Qy.below ⟨U ar,N,au⟩ ((Jj _ _).alloc (Ji _) _);have ax:((w.setCell ⟨c,1,none⟩ (.int .i32 1)).alloc (.cells #[.pointer none,.nilIface] 209)).heap[w.heap.size]? =some (.cells #[.pointer none,.nilIface] 209 (0,0)):=af (by simp[World.setCell]);generalize(w.setCell ⟨c,1,none⟩ (.int .i32 1)).alloc (.cells #[.pointer none,.nilIface] 209)=br at*;have ay:j<=w.heap.size:=M.env.size;have O:=ab ax;clear a' ax B f1 a3 a4 a5 N ar au;refine(BF s _ I).mono ?_;rintro e aA ⟨rfl,Q⟩;obtain⟨R,C⟩:=ag (av.below Q) ((Q.block _ (aa O)).trans O);clear Q av O;go_wp2_with fail;refine(C8 s a j _ (by exact(M.keep (R.off.below ay ak al)).env) I X a9).mono ?_;rintro e r ⟨b,rfl,aI,S⟩;have aJ:=ab (R.below S);have D:=(S.block _ (aa C)).trans C;obtain⟨aL,aN⟩:=ag D aI;have E:w.heap.size<aA.heap.size:=aa C;obtain⟨i,aR⟩:=blk D;have T:r.cell? ⟨w.heap.size,0,none⟩=some (.pointer none):=i 0;have V:r.cell? ⟨w.heap.size,1,none⟩=some .nilIface:=i 1;have F:=aa D;have W:w.heap.size≠c:=by omega
 have Y:w.heap.size≠d:=by omega
 clear S aI D R C i;go_wp2_with fail;have x:=ab ((aJ.set (o:=0) (Ji _) W Y (.pointer (some ⟨b,0,none⟩))).set (o:=1) (Ji _) W Y .nilIface);have Z:Hid (((r.setCell ⟨w.heap.size,0,none⟩ (.pointer (some ⟨b,0,none⟩))).setCell ⟨w.heap.size,1,none⟩ .nilIface).heap[w.heap.size]? =some (.cells #[.pointer (some ⟨b,0,none⟩),.nilIface] 209 (0,0))):=by unfold Hid;rw[am (am (U aL) _)];rfl
 have aT:Hid (de ((r.setCell ⟨w.heap.size,0,none⟩ (.pointer (some ⟨b,0,none⟩))).setCell ⟨w.heap.size,1,none⟩ .nilIface) aA.heap.size (.pointer (some ⟨b,0,none⟩)) X):=(aN.off2 (aF.setCell w.heap.size w.heap.size r 0 _) E E).off2 (aF.setCell w.heap.size w.heap.size _ 1 _) E E;generalize(r.setCell ⟨w.heap.size,0,none⟩ (.pointer (some ⟨b,0,none⟩))).setCell ⟨w.heap.size,1,none⟩ .nilIface=bs at*;clear aJ aL aN T V F aR;refine(GG a j _ (by exact M.keep (x.off.below ay ak al)) c d n h s I _ k 1 l m a1 hn J (by exact x.blk) (by exact x.map)).mono ?_;rintro e y ⟨rfl,aU,aV,G⟩
 have bb:Hid (Qy w k c d 1 l (m+1) (n+1) (h.put (.string s.data.toList) (.held (.agg #[.pointer (some ⟨b,0,none⟩),.nilIface]))) y):=⟨aV,aU,x.off.trans G⟩
 have ac:=(G.block _ (aa Z) W Y).trans Z;have bc:=ab (aT.off2 G (by omega) (by omega));obtain⟨i,aR⟩:=blk ac;have T:y.cell? ⟨w.heap.size,0,none⟩=some (.pointer (some ⟨b,0,none⟩)):=i 0;have V:y.cell? ⟨w.heap.size,1,none⟩=some .nilIface:=i 1;have F:=aa ac;clear aU aV G ac x Z aT i;go_wp2_with fail
 go_region_held3 (fun w'=>w'.cell? ⟨w.heap.size,0,none⟩=some (.pointer (some ⟨b,0,none⟩))/\w'.cell? ⟨w.heap.size,1,none⟩=some .nilIface) (go_keep) (first|(go_at_call 80;refine(tF _).mono ?_;rintro e z ⟨rfl,H⟩;have bt:=(H.cell (p:=⟨w.heap.size,0,none⟩) (by simpa using F)).trans T;have bu:=(H.cell (p:=⟨w.heap.size,1,none⟩) (by simpa using F)).trans V;have a0:Hid (Below y.heap.size y z):=(Jj _ _).drew.trans H;clear H))
 all_goals go_wp2
 have ad:=bb.below a0;have ae:=ab ad;obtain⟨q,v⟩:=blk ad.blk;have B:z.cell? ⟨c,1,none⟩=some (.int .i32 1):=q 1;have f1:z.frozen? ⟨c,1,none⟩=false:=v 1;clear ad q v;refine LR (f:=77) (args:= #[.pointer (some ⟨c,1,none⟩)]) (by simp) (by simp[go_sem]) ?_;refine(Lp jA ⟨c,1,none⟩ .returning _ B f1).mono ?_;rintro e bv bx ⟨rfl,rfl,rfl⟩;refine⟨_,L5 rfl _ _ _,b,rfl,?_,?_,ae.map.setCell (a:=⟨c,1,none⟩) J _,ae.off.trans (aF.setCell c d z 1 _)⟩
 ·exact(bc.keepB a0).off3 (aF.setCell c d z 1 _) (by omega) (by omega) (by omega)
 ·rw[am ae.blk];rfl
def pG(T:List Tb)(x:bH)(a:List Sr):Option (Nat×Nat):=cw T a x.val
def F9(T:List Tb)(x:bH)(a:List Sr)(rows:List (List Int)):List Int:=rows.map (dm (a6 T a) x.val)
structure Pn(T:List Tb)(x:dP)(fs:Fs)(N:Nat)(ch l:List (List Int))(R:Option (Nat×Nat)):Prop where
 efs:fs=aX T x.srcs
 eN:N=dQ (aK T fs.ss)
 ech:ch=gE T fs.ss (x.tests.map fun u=>iX (a6 T fs.ss) u) N
 el:l=kH ch.length ((x.items.map fun e=>F9 T e fs.ss).map fun f=>f ch)
 eR:R=x.tests.foldl (fun a u=>bQ a (gd T fs.ss u)) (x.items.foldl (fun a e=>bQ a (pG T e fs.ss)) fs.er)
end
section
open Go.RowKit Go.Sort Tryz
def eZ(w:World)(lo g k:Nat)(l:List (List Int)):Prop:= ∃a:List Nat,w.heap[g]? =some (.cells (a.map (sl k)).toArray 32 (0,0))/\a.length=l.length/\a.Nodup/\ ∀(d b:Nat) (c:List Int),a[d]? =some b->l[d]? =some c->b≠g/\lo<=b/\c.length=k/\w.heap[b]? =some (.cells (aE c).toArray 3 (0,0))
theorem eZ.mono{w:World}{lo h g k:Nat}{l:List (List Int)}(i:eZ w lo g k l)(j:h<=lo):eZ w h g k l:=by obtain⟨m,n,o,p,a⟩:=i;exact⟨m,n,o,p,fun b c d e f=>⟨(a b c d e f).1,Jt j (a b c d e f).2.1,(a b c d e f).2.2⟩⟩
theorem eZ.off{w w':World}{lo g k c:Nat}{l:List (List Int)}(i:eZ w lo g k l)(d:aF c c w w')(e:g≠c)(j: ∀cs,w.heap[c]? ≠some (.cells cs 3 (0,0))):eZ w' lo g k l:=by obtain⟨m,f,n,o,p⟩:=i;refine⟨m,(d.block g (aa f) e e).trans f,n,o,fun q a r s t=>?_⟩;obtain⟨u,v,x,b⟩:=p q a r s t;have h:a≠c:=fun y=>j _ (by rw[<-y];exact b);exact⟨u,v,x,(d.block a (aa b) h h).trans b⟩
theorem eZ.below{w w':World}{lo g k:Nat}{l:List (List Int)}(e:eZ w lo g k l)(a:Below w.heap.size w w'):eZ w' lo g k l:=by obtain⟨f,b,h,i,j⟩:=e;refine⟨f,(a.block g (aa b)).trans b,h,i,fun m c n o p=>?_⟩;obtain⟨q,r,s,d⟩:=j m c n o p;exact⟨q,r,s,(a.block c (aa d)).trans d⟩
theorem eZ.rowsB{w:World}{lo g k:Nat}{l:List (List Int)}(h:eZ w lo g k l)(r:k<=maxLen):IF w g 32 l.length l:=by
 obtain⟨c,i,j,s,m⟩:=h;refine⟨_,i,by simp[j],Ji _,fun b n d=>?_⟩;have o:b<c.length:=by have:=(Jy.1 d).1;omega
 obtain⟨a,e⟩: ∃a,c[b]? =some a:=⟨_,Jl o⟩
 obtain⟨p,t,q,f⟩:=m b a n e d;refine⟨sl k a,by simp[e],some ⟨a,0,none⟩,k,by rw[q],by omega,fun _=>⟨a,0,rfl,p,aa f,fun u v=>?_⟩⟩;rw[JV,(blk f).1];simp
theorem kZ.rowsO{W:World}{lo g:Nat}{a:List Nat}{k:Nat}{C:Nat->List Int}(c:kZ W lo g a k 0 C)(l:List (List Int))(e:l.length=a.length)(f: ∀i,i<a.length->l[i]? =some (C i)):eZ W lo g k l:=by
 refine⟨a,by simpa using c.out,e.symm,?_,fun i h t d b=>?_⟩
 ·unfold List.Nodup;rw[Lg];intro i j m n u o;have:=c.one i j a[i] (Jl m) (by rw[o];exact Jl n);omega
 ·obtain⟨p,q,r,s⟩:=c.row i h d;rw[f i (Jy.1 d).1]at b;injection b with b;subst b;exact⟨p,q,r,s⟩
def nO:Value->Nat
 |.slice (some a) _ _=>a.block
 |_=>0
theorem yj(w:World)(lo g k:Nat)(l:List (List Int))(E:eZ w lo g k l)(x:k<=maxLen)(F:l.length<4611686018427387904):
  Calls prog 83 #[.slice (some ⟨g,0,none⟩) l.length l.length] w fun e w'=>e=.returned (.tuple #[])/\w.grownBy w' (some g)/\eZ w' lo g k (iY l):=by
 obtain⟨y,f,p,z,G⟩:=E.rowsB x;obtain⟨q,H,I,J,K⟩:=E;have r:y=(q.map (sl k)).toArray:=by rw[H]at f;injection f with f;injection f with f _ _;exact f.symm
 obtain⟨h,s,t⟩:=vv l 0 (fun b A e=>by rw[JV];exact G b A e);have n:h.length=l.length:=by rw[<-s,Jm]
 have ad: ∀L w,(callFunc 128 L).run prog w=.ok (.enter 128 L) w:=enters_of func128 (by kernel_rfl) rfl
 have M:Holds (l7 (w:=w) (g:=g)) w g 0 h.toArray:=by
  intro m B;have u:m<h.length:=by simpa using B
  refine⟨?_,by simp[World.frozen?,f]⟩;have c:=t m h[m] (Jl u);simp only[World.cell?,f,Option.isSome_none,Km,Lj];rw[c];simp[u]
 have N:=slices_SortFunc (l7 (w:=w) (g:=g)) (fun a=>by obtain⟨aV,a0,ae,-⟩:=a.2;show Value.oneCell' a.1.1=true;rw[ae];rfl) (fun a aj=>bV (pE a) (pE aj)) (Ia pE) 128 #[] g 0 l.length h.toArray w ad (E3 w g _) M (J3.1 f).1 (by simpa [n]using F);rw[show h.toArray.size=l.length by simpa using n]at N
 have C:h.map (fun a=>nO (l7 a))=q:=by
  apply LN;intro b;rw[J7];by_cases i:b<h.length
  ·have c:=t b h[b] (Jl i);rw[JV,r]at c;simp only[LA,J7]at c;rw[Jl i];have ak:b<q.length:=by omega
   rw[Jl ak]at c⊢;simp only[Lc,Ke]at c⊢;rw[<-c];rfl
  ·rw[Kj (by omega),Kj (by omega)];rfl
 have O: ∀a∈h,l7 a=sl k (nO (l7 a)):=fun a j=>by
  obtain⟨b,i⟩:=LB.1 j;have c:=t b a i;rw[JV,r]at c;simp only[LA,J7]at c
  cases P:q[b]? with
  |none=>rw[P]at c;cases c
  |some Q=>rw[P]at c;simp only[Lc,Ke]at c;rw[<-c];rfl
 have R: ∀a∈h,nO (l7 a)≠g/\lo<=nO (l7 a)/\(pE a).length=k/\w.heap[nO (l7 a)]? =some (.cells (aE (pE a)).toArray 3 (0,0)):=fun a j=>by
  obtain⟨b,i⟩:=LB.1 j;refine K b _ _ ?_ ?_
  ·rw[<-C,J7,i];rfl
  ·rw[<-s,J7,i];rfl
 obtain⟨al,an,ao,ap,a1,a2⟩:=io C O R J I r;clear C O R H I J K r;obtain⟨ar,au,av,ax,ay⟩:=dD s n f p z;clear s n f p z t G M F;go_enter func83,ntmps83;go_wp2_with (go_at_call 127;refine N.mono ?_;rintro e w' ⟨rfl,d,a3,a4,S,aA,rfl⟩);go_end0;have n:=U au;have f:=U av;have p:=U ax;have z:=U ay;have T:d.size=l.length:=by rw[S.1];simpa using n
 have v:d.toList.Perm h:=by
  have V:=S.2.2;rw[show l.length=d.size from T.symm,Array.extract_size,T,<-n]at V
  simpa using V
 have W:d.toList.map pE=iY l:=by
  refine sc (by rw[<-U ar];exact v.map _) ?_;rw[List.pairwise_map,Lg];intro b m i B aI;have aJ:b<d.size:=by simpa using i
  have u:m<d.size:=by simpa using B
  have X:=aA b m (KO _) aI (by omega);rw[getElem!_pos d m u,getElem!_pos d b aJ]at X;simp only[ltOf,Ku,Mv]at X;have:=fM (pE d[b]) (pE d[m]);simp only[Array.getElem_toList];omega
 refine⟨rfl,⟨rfl,rfl,rfl,rz _ _ _ _ _ _ _,fun k x aL=>m7 _ _ _ _ _ _ _ _ x (fun e=>aL (by rw[e]))⟩,d.toList.map (fun a=>nO (l7 a)),?_,?_,?_,?_⟩
 ·rw[xY _ _ _ _ _ _ f]
  congr 2
  apply Array.ext';have a5:(putCells (l7 (w:=w) (g:=g)) 0 d y).toList.length=l.length:=by simp[putCells,p]
  have Y:=By (l7 (w:=w) (g:=g)) y d (by omega);rw[JJ (by omega)]at Y;rw[Y,Ml];apply MF;intro a j;exact an a (v.mem_iff.1 j)
 ·rw[<-W,Jm,Jm]
 ·have:=v.map (fun a=>nO (l7 a));rw[U al]at this;exact this.nodup_iff.2 ap
 ·intro b Q A o D;rw[<-W,J7]at D;rw[J7]at o
  cases j:d.toList[b]? with
  |none=>rw[j]at o;cases o
  |some a=>
   rw[j]at o D;have aN:nO (l7 a)=Q:=by simpa using o
   have aR:pE a=A:=by simpa using D
   subst aN aR;obtain⟨Z,aT,aU,ac⟩:=(U ao) a (v.mem_iff.1 (JL j));exact⟨Z,aT,aU,(m7 _ _ _ _ _ _ _ _ (aa ac) Z).trans ac⟩
def uK(a:Nat->Addr)(w:World)(c k:Nat)(l:List (List Int))(e:Ending)(w':World):Prop:=Below w.heap.size w w'/\if 4000<c then e=.returned (.tuple #[.slice none 0 0,bI a cB])else∃b,e=.returned (.tuple #[.slice (some ⟨b,0,none⟩) l.length l.length,.nilIface])/\w.heap.size<=b/\eZ w' w.heap.size b k l
theorem Db(ae:World)(aj:Fx)(c:Fc)(o:List Sr)(P:Nat)(b:List (List (List Int)->List Int))(ak:List (List Int->Bool))(Q:sa ae aj c o P b ak)(cj:0<o.length)(eX:b.length<=6)(w:World)(z:gh ae aj w)(a9:Nat)(a':cJ c.a a9 w)(T:List Tb)(ba:Nat)(bb:bp w (.slice (some ⟨c.tb,c.tof,none⟩) T.length ba) T)(A:yd c T o P)(B:Nat)(al:B=dQ (aK T o))(a:List (List Int))(R:a=gE T o ak B):
  Calls prog 126 #[.pointer (some ⟨c.fb,2,none⟩)] w fun e w'=>uK c.a w B b.length (kH a.length (b.map fun f=>f a)) e w':=by
 obtain⟨cl,n,C⟩:=Jq.1 jS;simp only[JB]at C;obtain⟨D,E,F⟩:=C;obtain⟨cp,cq,cr,an⟩:=aP n D E F;clear n D E F;obtain⟨cs,n,C⟩:=Jq.1 mw;simp only[JB]at C;obtain⟨D,E,F⟩:=C;obtain⟨ct,cu,cv,cz⟩:=aP n D E F;clear n D E F;have cF:a.length<=B:=by rw[R];exact ph _ _ _ _
 have cI:Hid (0<a.length-> ∀S∈a,S.length=P):=fun e0 S G=>by have cL:=(uI T o 1 (by rw[al]at cF;show 0<dQ (aK T o);omega)).2;rw[R]at G;obtain⟨v,-,rfl⟩:=KM.1 (List.mem_filter.1 G).1;rw[se T v o (fun cN cR=>A.shape _ (ll (by rw[A.len];exact Q.ok cN cR))) cL,<-A.wide]
 have ao:=ab (zS ae aj c o P b ak Q cj w z a9 a' T ba bb A);rw[<-al,<-R]at ao;obtain⟨e1,e2,e3,e4,bc,e5,be,-,⟨bg,V,bk⟩,-⟩:=Q.lies;obtain⟨cT,cV,rfl,mt,ap⟩:=bg.row rfl z;rw[V]at mt ap;obtain⟨cW,cZ,c0⟩:=aC ap bk V;have H:=z.new _ _ be;have ar:=aa H;obtain⟨bl,-⟩:=blk H;have bn:w.cell? ⟨c.fb,4,none⟩=some (.slice cT b.length cV):=(bl 4).trans (by rw[<-V];rfl);have c6:=ab z;clear Q z a' bb A al R bg ap bk V bl H be;go_enter func126,ntmps126;go_wp2_with fail;refine ao.mono ?_;rintro e g ⟨au,W⟩;have u:=ab au;clear ao;by_cases X:4000<B
 ·rw[Jo X]at W;subst W;clear au;go_wp2
  go_ret2
  exact⟨U u,by rw[Jo X];rfl⟩
 ·rw[Jn X]at W;obtain⟨e6,rfl,bq⟩:=W;have br:=ab bq;obtain⟨e7,⟨aD,e8,rfl,c7,-⟩,bs,-⟩:=bq;rw[bs]at br⊢;clear au c7 bs;go_wp2_with (at_make;refine KU _ rfl _ _ 42 rfl g.heap.size 32 cl (.slice none 0 0) 1 underlying42 cp cq cr .i64 .i64 _ _ a.length rfl rfl ?c1 ?c2 ?c3 ?c4 ?c5 ?_)
  case c1=>simp
  case c2=>simp
  case c3=>rw[U an];omega
  case c4=>unfold maxLen;omega
  case c5=>exact Ji _
  intro bt bu bv;rcases bu.2 with⟨hv,_⟩|⟨g1,cap,cur,hv,hge,hh,c1,c2,c3,c4⟩
  ·cases hv
  injection hv with m av ax;injection m with m;injection m with m;subst m
  have q:cur.toList=List.replicate a.length (Value.slice none 0 0):=by
   have c8:cur.toList.length=a.length:=by rw[JP,c3];omega
   rw[Lb,JJ (by omega)]at c4;rw[c4];simp only[madeCells];apply LV
   ·simp
   ·intro i I c9;simp[Nat.mod_one]
  have c':Hid (kZ bt g.heap.size g.heap.size [] b.length a.length (ii b a 0)):=by refine⟨?_,fun i t e=>by simp at e,fun i j t e=>by simp at e⟩;rw[List.map_nil,LK,<-q,L6];exact hh
  have dd:Hid (Below g.heap.size g bt):=(Jj _ _).grown bv (Ji _) (fun h e=>by cases e);have df:=(u.cell (p:=⟨c.fb,4,none⟩) ar).trans bn;have bx:c.fb<g.heap.size:=Js ar u.size;have bz:Hid (∀l,Below g.heap.size g l->Below w.heap.size w l):=fun l dk=>u.trans (dk.mono u.size);clear bu bv hh c1 c2 c3 c4 av ax hge q bn ar;go_wp2_with fail
  go_loopg [7,25] a.length (fun f _ i l=> ∃k,k.length+f=a.length/\i=.int .i64 (k.length:Nat)/\kZ l g.heap.size g.heap.size k b.length f (ii b a 0)/\Below g.heap.size g l)
  case atStart=>exact⟨[],by simp,rfl,c',dd⟩
  case round=>
   obtain⟨k,e9,rfl,bA,r⟩:=hrel;obtain⟨ay,bF⟩:=ag bA r;have dp:=(r.cell (p:=⟨c.fb,4,none⟩) bx).trans df;have e':c.fb<wr.heap.size:=Js bx r.size;have bG:=r.size;clear bA r
   cases gk with
   |zero=>
    have x:decide ((k.length:Int)<(a.length:Int))=false:=by simp;omega
    have bJ:decide (k.length<a.length)=false:=by simp;omega
    go_wp2_with fail;clear x bJ dp
    go_loopg [8,9,10,11,43] b.length (fun f _ _ _ _ j l=> ∃d s,b=d++s/\f=s.length/\j=.int .i64 (d.length:Nat)/\kZ l g.heap.size g.heap.size k b.length 0 (ii b a d.length)/\Below g.heap.size g l)
    case atStart=>exact⟨[],b,rfl,rfl,rfl,ay,bF⟩
    case round=>
     obtain⟨d,s,I,rfl,rfl,bL,aA⟩:=hrel;have bN:d.length+s.length=b.length:=by rw[I,Jk]
     obtain⟨Y,aI,Z⟩:=aC I bL aA;have dq:=aA.size;clear I bL aA
     cases s with
     |nil=>
      have x:decide ((d.length:Int)<(b.length:Int))=false:=by simp at bN⊢;omega
      obtain rfl:d=b:=by rw[U Y,JD]
      go_wp2
      go_ret2
      refine⟨(U bz) _ Z,?_⟩;rw[Jn X];have bS:(kH a.length (d.map fun f=>f a)).length=a.length:=by simp[kH]
      refine⟨g.heap.size,by rw[bS];rfl,u.size,?_⟩;refine eZ.mono (aI.rowsO _ (by rw[bS];omega) (fun i n=>?_)) u.size;have ds:i<a.length:=by omega
      simp[kH,ii,ds]
     |cons f s=>
      rw[Ju]at bN;have x:decide ((d.length:Int)<(b.length:Int))=true:=by simp;omega
      have an:Hid (b=(d++[f])++s):=by unfold Hid;rw[U Y];simp
      obtain⟨bX,b0,rfl,dw,c1⟩:=(U cW) (by omega)
      obtain⟨ac,aJ⟩: ∃ac,bc[d.length]? =some ac:=⟨bc[d.length]'(by rw[U c0];omega),Jl _⟩
      obtain⟨dT,d',ea,rfl,aL⟩:=(U cZ) d.length ac f aJ (by rw[U Y];simp);have r:=(U bz) _ Z;have eb:wr.cell? ⟨bX,b0+d.length,none⟩=some (.func (.func dT) d' ea):=by rw[r.cell (p:=⟨bX,b0+d.length,none⟩) dw,c1 _ (by omega),aJ]
      have ed:=aL.1;have b1:=ab (aL.2 wr _ a (c6.below r) (fun S G=>(U cI) (List.length_pos_of_mem G) S G) (by omega) (br.keep Z));clear r aL c1 aJ;go_wp2_with fail;refine b1.mono ?_;rintro e J ⟨ac,rfl,b2,b3,aN,aR⟩;obtain⟨b4,b5,b6,ef⟩:=aP b2 b3 aN (aI.below aR);have K:Hid (Below g.heap.size g J):=Z.trans (aR.mono dq);have eg:Hid (∀t∈k,t<wr.heap.size):=fun t H=>by obtain⟨i,n⟩:=Lh H;exact aa (aI.row i t n).2.2.2
      obtain⟨ei,en,rfl,eo,q⟩:=b2;rw[Jm,aN]at eo b4 b5 q⊢;have fa:=ab q;clear b3 aN aR q b1 eb ed;go_wp2_with fail
      go_loopg [10,11,52] a.length (fun ep _ _ i l=> ∃h,h+ep=a.length/\i=.int .i64 (h:Nat)/\kZ l g.heap.size g.heap.size k b.length 0 (fun v=>if v<h then ii b a (d.length+1) v else ii b a d.length v)/\Below g.heap.size g l/\aS l (.slice ei a.length en) (aE (f a)))
      case atStart=>exact⟨0,by omega,rfl,ef.congr (fun i _=>by rw[Jn (by omega)]),K,b4⟩
      case round=>
       obtain⟨h,fb,rfl,y,aT,aU⟩:=hrel;obtain⟨b7,b9,eq⟩:=aC y aT aU
       cases gk with
       |zero=>
        have x:decide ((h:Int)<(a.length:Int))=false:=by simp;omega
        clear y aT aU;go_wp2;go_roundg s.length
        case measure=>simp
        case rel=>
         refine⟨d++[f],s,an,rfl,?_,?_,b9⟩
         ·rw[Jk];go_num
         ·rw[Jk];exact b7.congr (fun i n=>by rw[Jo (by omega)];rfl)
       |succ aV=>
        have x:decide ((h:Int)<(a.length:Int))=true:=by simp;omega
        have bJ:decide (h<a.length)=true:=by simp;omega
        obtain⟨L,M⟩: ∃t,k[h]? =some t:=⟨_,Jl (by omega)⟩
        obtain⟨fc,b',ca,ad⟩:=y.row h L M;rw[Jn (by omega)]at ca ad;obtain⟨N,-⟩:=blk y.out;have fe:wr.cell? ⟨g.heap.size,h,none⟩=some (.slice (some ⟨L,0,none⟩) b.length b.length):=by rw[N,List.replicate_zero,JD,LA,J7,M];rfl
        obtain⟨cb,fg⟩:=blk ad;have cc:d.length<(ii b a d.length h).length:=by omega
        obtain⟨a0,cd⟩: ∃a0:Int,(ii b a d.length h)[d.length]? =some a0:=⟨_,Jl cc⟩
        have fk:wr.cell? ⟨L,d.length,none⟩=some (.int .i64 a0):=by rw[cb];simp[cd]
        have fl:=aa y.out;have fn:=aa ad;obtain⟨fo,fp,a1,-,a2⟩:=aU;injection a1 with a1 er es;clear er es;subst a1;rw[Jm,U b6]at a2;obtain⟨a3,ce,rfl,fq,cf⟩:=a2 (by omega)
        obtain⟨O,a4⟩: ∃O:Int,(f a)[h]? =some O:=⟨_,Jl (by rw[U b6];omega)⟩
        have fr:wr.cell? ⟨a3,ce+h,none⟩=some (.int .i64 O):=by rw[cf h (by omega)];simp[a4]
        have et:a3≠L:=by have fs:=(U b5) a3 ce _ _ rfl;have ft:=(U eg) L (JL M);omega
        have ev:Hid (O=(f a).getD h 0):=by unfold Hid;rw[JC,a4];rfl
        have ex:(0:Int)<=(h:Int):=by omega
        have ez:(h:Int)<(a.length:Int):=by omega
        have fv:(0:Int)<=(d.length:Int):=by omega
        have fw:(d.length:Int)<(b.length:Int):=by omega
        obtain⟨eN,eR⟩:=ag M b';clear y aT N cb a2 cf cd a4 ad ca cc M b';go_wp2;go_roundg aV
        case measure=>simp
        case rel=>
         refine⟨h+1,by omega,?_,?_,b9.setCell (U eR) _,eq.set (fun t fx v c e=>?_) _⟩
         ·go_num
         ·refine(b7.set (j:=d.length) eN O).congr (fun i n=>?_);by_cases e:i=h
          ·subst e;rw[Jo (by omega),Jo rfl,Jn (by omega),ev,Y,Fa]
          ·rw[Jn e];by_cases cg:i<h
           ·rw[Jo (by omega),Jo cg]
           ·rw[Jn (by omega),Jn cg]
         ·injection e with e _ _;injection e with e;injection e with e;subst e;exact et
   |succ aV=>
    have x:decide ((k.length:Int)<(a.length:Int))=true:=by simp;omega
    go_wp2_with (at_make;refine KU _ rfl _ _ 32 rfl wr.heap.size 3 cs (.int .i64 0) 1 underlying32 ct cu cv .i64 .i64 _ _ b.length rfl rfl ?c1 ?c2 ?c3 ?c4 ?c5 ?_)
    case c1=>simp
    case c2=>simp
    case c3=>rw[U cz];omega
    case c4=>unfold maxLen;omega
    case c5=>exact Ji _
    intro J ch ci;rcases ch.2 with⟨hv,_⟩|⟨g1,cap,cur,hv,hge,hh,c1,c2,c3,c4⟩
    ·cases hv
    injection hv with m av ax;injection m with m;injection m with m;subst m
    have q:cur.toList=aE (ii b a 0 k.length):=by
     have c8:cur.toList.length=b.length:=by rw[JP,c3];omega
     rw[Lb,JJ (by omega)]at c4;rw[c4];simp only[madeCells];apply LV
     ·simp[ii]
     ·intro i I c9;simp[ii,Nat.mod_one]
    have eT:Hid (J.heap[wr.heap.size]? =some (.cells (aE (ii b a 0 k.length)).toArray 3 (0,0))):=by unfold Hid;rw[<-q,L6];exact hh
    have K:Hid (Below wr.heap.size wr J):=(Jj _ _).grown ci (Ji _) (fun h e=>by cases e);have a5:=ay.below K;obtain⟨N,fy⟩:=blk a5.out;have fz:J.cell? ⟨g.heap.size,k.length,none⟩=some (.slice none 0 0):=by rw[N,LA,Jw (by simp)];simp
    have fO:=aa a5.out;clear ch ci hh c1 c2 c3 c4 av ax hge q N a5;have ex:(0:Int)<=(k.length:Int):=by omega
    have ez:(k.length:Int)<(a.length:Int):=by omega
    go_wp2;go_roundg aV
    case measure=>simp
    case rel=>
     refine⟨k++[wr.heap.size],by simp;omega,?_,?_,?_⟩
     ·rw[Jk];go_num
     ·exact(ay.put K bG (Ji _) (E9 b a (KO _) _) eT).congr (fun i _=>by split<;>simp[ii])
     ·exact(bF.trans (K.mono bG)).setCell (Ji _) _
end
section
open Go.RowKit Tryz
theorem Dc(a:Nat->Addr)(w:World)(b f g j:Nat)(l:List (List Int))(h:w.heap[b]? =some (.cells #[.pointer none,.pointer (some ⟨f,2,none⟩)] 288 (0,0)))
  (k:Calls prog 126 #[.pointer (some ⟨f,2,none⟩)] w fun e w'=>uK a w g j l e w'):
  Calls prog 82 #[.pointer (some ⟨b,0,none⟩)] w fun e w'=>uK a w g j l e w':=by
 have p:=ab k;have t:=aa h;obtain⟨i,-⟩:=blk h;have u:w.cell? ⟨b,0,none⟩=some (.pointer none):=i 0;have v:w.cell? ⟨b,1,none⟩=some (.pointer (some ⟨f,2,none⟩)):=i 1;clear k h i;go_enter func82,ntmps82;go_wp2_with fail;refine p.mono ?_;rintro e x ⟨m,c⟩;have n:=ab m;clear m;by_cases d:4000<g
 ·rw[Jo d]at c;subst c;go_wp2
  go_ret2
  exact⟨U n,by rw[Jo d];rfl⟩
 ·rw[Jn d]at c;obtain⟨q,rfl,r,o⟩:=c;have s:=ab o;clear o;go_wp2
  go_ret2
  exact⟨U n,by rw[Jn d];exact⟨q,rfl,r,s⟩⟩
def sf(a:Nat->Addr)(w:World)(f:Nat)(l:List (List Int))(b:List (bH×Value×Option Addr))(er:Option (Nat×Nat))(e:Ending)(w':World):Prop:=Below w.heap.size w w'/\
 (∀g h,er=some (g,h)-> ∃i,e=.returned (.tuple #[.agg #[.slice none 0 0,.slice none 0 0],i])/\F8 a w g h i w')/\
 (er=none->4000<f->e=.returned (.tuple #[.agg #[.slice none 0 0,.slice none 0 0],bI a cB]))/\
 (er=none->f<=4000-> ∃c d,e=.returned (.tuple #[.agg #[.slice (some ⟨c,0,none⟩) b.length b.length,.slice (some ⟨d,0,none⟩) l.length l.length],.nilIface])/\w.heap.size<=c/\w.heap.size<=d/\w'.heap[c]? =some (.cells (fR b).toArray 9 (0,0))/\eZ w' w.heap.size d b.length (iY l))
theorem BG(a:Nat->Addr)(w:World)(be:Nat)(z:cJ a be w)(A lo:Nat)(bg:Int)(b:Nat)(L:w.heap[A]? =some (.cells #[.int .i64 bg,.pointer none,.pointer (some ⟨b,0,none⟩)] 180 (0,0)))
  (an ao M:Nat) (T:List Tb) (N:bp w (.slice (some ⟨an,ao,none⟩) T.length M) T) (bk: ∀t∈T,t.cols.length<=6) (bl: ∀t∈T,t.rows.length<=200) (bn: ∀t∈T,∀r∈t.rows,r.length=t.cols.length)
  (ap:Int) (O P Q:Value) (s:List (Tk×Tk)) (ar:w.heap[b]? =some (.cells #[.int .i64 ap,O,P,Q] 256 (0,0))) (bq:w.ownsRow lo 260 5 P s.length (dO s)) (br:0<s.length) (cb:s.length<=3)
  (d:List (bH×Value×Option Addr)) (au:w.ownsRow lo 251 5 O d.length (dI d)) (bs:0<d.length) (av:d.length<=6) (ax:bH->List Sr->Option (Nat×Nat)) (S:bH->List Sr->List (List Int)->List Int) (bt: ∀(c:Fc),Below w.heap.size w c.w0->c.T=T->c.iw=false-> ∀e∈d,pf c e.1.place e.2.1 (.pointer e.2.2) e.1.asP e.1.asT (ax e.1) (S e.1)) (ay: ∀e∈d,jQ e.2.1)
  (us:List (cn×Value×Value)) (bu:w.ownsRow lo 263 4 Q us.length (du us)) (cc:us.length<=1000) (hex: ∀u∈us,∃n,bC w (fun _=>True) n u.2.1 u.1.l/\bC w (fun _=>True) n u.2.2 u.1.r)
  (g:Fs) (V:g=aX T s) (x:Nat) (bv:x=dQ (aK T g.ss)) (G:List (List Int)) (bx:G=gE T g.ss (us.map fun u=>iX (a6 T g.ss) u.1) x) (l:List (List Int)) (bz:l=kH G.length ((d.map fun e=>S e.1 g.ss).map fun f=>f G)) (R:Option (Nat×Nat)) (aA:R=lZ T g (jM ax g d) us):
  Calls prog 51 #[.pointer (some ⟨A,0,none⟩),.slice (some ⟨an,ao,none⟩) T.length M] w fun e w'=>sf a w x l d R e w':=by
 obtain⟨m,W⟩: ∃m,m=w.alloc (.cells #[.slice none 0 0,.slice none 0 0] 68):=⟨_,rfl⟩
 have h:Below w.heap.size w m:=by rw[W];exact(Jj _ _).alloc (Ji _) _
 have aI:m.heap[w.heap.size]? =some (.cells #[.slice none 0 0,.slice none 0 0] 68 (0,0)):=by rw[W];exact af rfl
 have aJ: ∀ {o:Nat} {aL:Obj},w.heap[o]? =some aL->m.heap[o]? =some aL:=fun{o aL} bA=>(h.block o (fP bA)).trans bA;have aN:=ab (wy a m ((z.keep (h.mono z.env.size)).up) A lo bg b (aJ L) an ao M T (N.keep h) bk ap O P Q s (aJ ar) (dG bq h) br cb d (dG au h) bs av ax S (fun c cd=>bt c (by rw[cd];exact h)) ay us (dG bu h) cc (fun u ce=>let⟨n,H,X⟩:=hex u ce;⟨n,H.keepB h,X.keepB h⟩));rw[<-V,<-aA]at aN;obtain⟨k,cf⟩:=ag h aI;have cg:=aa aI;have bF:=aa L;obtain⟨bG,-⟩:=blk L;have ch:w.cell? ⟨A,2,none⟩=some (.pointer (some ⟨b,0,none⟩)):=bG 2;obtain⟨c5,c6,bJ,ci,cj⟩:=dD z N ar au ay;have bL:Hid (iL T 0 g.ss/\g.wd=go T g.ss):=by rw[V];exact qa T s
 have cl:Hid (R=none->0<g.ss.length):=fun Y=>by have H:g.er=none:=C5 (aA.symm.trans Y);rw[V]at H⊢;rw[BE H];exact br
 obtain⟨cp,cq,cr,bN,bS,cs,bX⟩:=sq bl bn bv bx bz (N.keep h) (z.keep (h.mono z.env.size));clear V aA z N ar bq au bt ay bu hex bk L bG bl bn bv bx bz aI h aJ;have ct:=ab W;clear W;go_enter func51,ntmps51;go_wp2_with fail;rw[<-U ct];refine aN.mono ?_;rintro e q ⟨aR,aT,aU⟩;have B:=ab aR;have Z:=(aR.block _ cg).trans cf;have cu:=ab Z;obtain⟨i,j⟩:=blk Z;have cv:=aa Z;have aV:q.cell? ⟨w.heap.size,0,none⟩=some (.slice none 0 0):=i 0;have a0:q.cell? ⟨w.heap.size,1,none⟩=some (.slice none 0 0):=i 1;have a1:q.frozen? ⟨w.heap.size,0,none⟩=false:=j 0;have a2:q.frozen? ⟨w.heap.size,1,none⟩=false:=j 1;clear aN aR Z i j
 cases R with
 |some cz=>
  obtain⟨p,o⟩:=cz;obtain⟨c7,rfl,I,rfl,H,X⟩:=aU p o rfl;have cF:=ab X;clear aT aU X;have b0:Below w.heap.size w ((q.setCell ⟨w.heap.size,0,none⟩ (.slice none 0 0)).setCell ⟨w.heap.size,1,none⟩ (.slice none 0 0)):=((k.trans (B.mono k.size)).setCell (Ji _) _).setCell (Ji _) _;have a3:=ab b0;have cI:Hid (((q.setCell ⟨w.heap.size,0,none⟩ (.slice none 0 0)).setCell ⟨w.heap.size,1,none⟩ (.slice none 0 0)).heap[I]? =some (.cells #[.int .i64 (p:Nat),bI a o] 113 (0,0))):=by unfold Hid;rw[Jp _ _ _ _ (by show I≠w.heap.size;omega),Jp _ _ _ _ (by show I≠w.heap.size;omega)];exact cF
  clear b0;go_wp2;refine Jr (v:=.tuple #[.agg #[.slice none 0 0,.slice none 0 0],.iface 110 (.pointer (some ⟨I,0,none⟩))]) (by simp[results,results51,go_sem, *]) rfl ⟨U a3,fun b1 b2 e=>?_,(fun e=>by cases e),(fun e=>by cases e)⟩;cases e;exact⟨_,rfl,I,rfl,by omega,cI⟩
 |none=>
  obtain⟨cL,cN,cR,rfl,b3,a4,a5⟩:=aT rfl;obtain⟨c8,c9⟩:=ag a5 a4;have cT:=(U cl) rfl;have b4:=ab (Db m cR _ g.ss g.wd _ _ a5 cT (by simpa using av) q a4 be (bX.keep (B.mono bX.env.size)) T M (cs.keep B) ⟨rfl,cp,cq,bL.1,bL.2⟩ x cr G bN);have a9:=ab (Dc _ q cL cN x _ _ b3 b4);rw[<-U bS]at a9;clear aT aU a5 a4 b3 b4 aV a0 a1 a2;go_wp2_with fail;refine a9.mono ?_;rintro e y ⟨ac,ad⟩;have b5:Hid (Below m.heap.size m y):=B.trans (ac.mono B.size);have J:=(ac.block _ cv).trans cu;have cV:=ab J;have c':=ac.size;have dd:=B.size;clear ac a9;by_cases ae:4000<x
  ·rw[Jo ae]at ad;subst ad;obtain⟨i,j⟩:=blk J;have df:=aa J;have aV:y.cell? ⟨w.heap.size,0,none⟩=some (.slice none 0 0):=i 0;have a0:y.cell? ⟨w.heap.size,1,none⟩=some (.slice none 0 0):=i 1;have a1:y.frozen? ⟨w.heap.size,0,none⟩=false:=j 0;have a2:y.frozen? ⟨w.heap.size,1,none⟩=false:=j 1;have a3:Hid (Below w.heap.size w ((y.setCell ⟨w.heap.size,0,none⟩ (.slice none 0 0)).setCell ⟨w.heap.size,1,none⟩ (.slice none 0 0))):=((k.trans (b5.mono k.size)).setCell (Ji _) _).setCell (Ji _) _;clear J i j;go_wp2;refine Jr (v:=.tuple #[.agg #[.slice none 0 0,.slice none 0 0],bI a cB]) (by simp[results,results51,go_sem, *]) rfl ⟨U a3,(fun b1 b2 e=>by cases e),fun _ _=>rfl,fun _ Y=>absurd ae (by omega)⟩
  ·rw[Jn ae]at ad;obtain⟨C,rfl,dk,b6⟩:=ad
   have dp:l.length<=4000:=by
    rw[U bS];have K:G.length<=x:=by rw[U bN];exact ph _ _ _ _
    simp[kH];omega
   have b7:=ab (yj y _ C _ l b6 (by first|(simp[maxLen];omega)|(unfold maxLen;omega)) (by omega));clear b6 J;go_wp2_with fail;refine b7.mono ?_;rintro e aj ⟨rfl,a',ba⟩;have D:Below w.heap.size w aj:=(k.trans (b5.mono k.size)).grown a' (by have:=k.size;omega) (fun o e=>by injection e with e;have:=k.size;omega);have b9:=(a'.block w.heap.size (by omega) (fun e=>by injection e with e;omega)).trans cV;have b':=ab (zP aj b lo ap O P Q ((D.block b (aa bJ)).trans bJ) d (dG ci D) bs av cj);have cW:=(D.cell (p:=⟨A,2,none⟩) bF).trans ch;have dq:A<aj.heap.size:=Js bF D.size;obtain⟨ca,bb,cZ⟩:=aC D b9 ba;have ds:C<aj.heap.size:=by obtain⟨dw,K,-⟩:=ba;exact aa K
   clear D b9 ba a' b7;go_wp2_with fail;refine b'.mono ?_;rintro e E ⟨F,rfl,ak,dT,bc⟩;have al:=(ak.block _ (aa bb)).trans bb;obtain⟨i,j⟩:=blk al;have d':=aa al;have aV:E.cell? ⟨w.heap.size,0,none⟩=some (.slice none 0 0):=i 0;have a0:E.cell? ⟨w.heap.size,1,none⟩=some (.slice none 0 0):=i 1;have a1:E.frozen? ⟨w.heap.size,0,none⟩=false:=j 0;have a2:E.frozen? ⟨w.heap.size,1,none⟩=false:=j 1;have c0:Hid (Below w.heap.size w E):=ca.trans (ak.mono ca.size);obtain⟨c1,c2,c3⟩:=aC al (cZ.below ak) bc;have ea:w.heap.size<F:=by have:=aa bb;omega
   have eb:w.heap.size<C:=by have:=k.size;omega
   have ed:=aa bc;clear ak al i j bc b' cW;go_wp2;refine Jr (v:=.tuple #[.agg #[.slice (some ⟨F,0,none⟩) d.length d.length,.slice (some ⟨C,0,none⟩) l.length l.length],.nilIface]) (by simp[results,results51,go_sem, *]) rfl ⟨(c0.setCell (Ji _) _).setCell (Ji _) _,(fun b1 b2 e=>by cases e),(fun _ Y=>absurd Y ae),fun _ _=>⟨F,C,rfl,by omega,by omega,?_,?_⟩⟩
   ·rw[Jp _ _ _ _ (by show F≠w.heap.size;omega),Jp _ _ _ _ (by show F≠w.heap.size;omega)];exact c3
   ·have K:=c2.off (c:=w.heap.size) (w':=(E.setCell ⟨w.heap.size,0,none⟩ (.slice (some ⟨F,0,none⟩) d.length d.length)).setCell ⟨w.heap.size,1,none⟩ (.slice (some ⟨C,0,none⟩) l.length l.length)) ((aF.setCell _ _ _ _ _).trans (aF.setCell _ _ _ _ _)) (by omega) (fun ef e=>by rw[U c1]at e;injection e with e;injection e with _ e _;exact absurd e (by decide));have c4:(d.map fun e=>S e.1 g.ss).length=d.length:=by simp
    rw[c4]at K;exact K.mono (by have:=k.size;omega)
theorem zT(a:Nat->Addr)(w:World)(x:Nat)(G:cJ a x w)(lo n:Nat)(X:cH)(H:de w lo (.pointer (some ⟨n,0,none⟩)) X)(I:X.wth=none)(J: ∀i∈X.main.items,i.win=none)(ay:0<X.main.items.length)(aA:X.main.items.length<=6)(K:0<X.main.srcs.length)(L:X.main.srcs.length<=3)(aI:X.main.tests.length<=1000)
  (o p q:Nat) (T:List Tb) (M:bp w (.slice (some ⟨o,p,none⟩) T.length q) T) (N: ∀t∈T,t.cols.length<=6) (O: ∀t∈T,t.rows.length<=200) (P: ∀t∈T,∀r∈t.rows,r.length=t.cols.length)
  (y:Fs) (s:Nat) (z l:List (List Int)) (R:Option (Nat×Nat)) (h:Pn T X.main y s z l R):
  ∃c:List (bH×Value×Option Addr),c.map (·.1)=X.main.items/\Calls prog 51 #[.pointer (some ⟨n,0,none⟩),.slice (some ⟨o,p,none⟩) T.length q] w fun e w'=>sf a w s l c R e w':=by
 obtain⟨aJ,Q,aL,f,-,S,A,V⟩:=H;injection f with f;injection f with f;injection f with f;subst f;rw[I]at A;obtain rfl:Q=.pointer none:=A;obtain⟨W,Y,Z,ac,c,B,rfl,-,ad,⟨ae,j,aj⟩,ak,⟨al,u,an⟩⟩:=V;have aN:c.length=X.main.items.length:=by rw[<-j,Jm]
 have aR:B.length=X.main.tests.length:=by rw[<-u,Jm]
 have ao: ∀e∈c,e.1.win=none:=fun e d=>J _ (by rw[<-j];exact List.mem_map_of_mem d);have C: ∀e∈c,e.2.2=none/\eD w lo e.2.1 e.1.val:=fun e d=>by have g:=aj e d;rw[ao e d]at g;obtain⟨b,k⟩:=g;injection b with b;exact⟨b,k⟩
 refine⟨c,j,BG a w x G n lo _ W S o p q T M N O P _ Y Z ac X.main.srcs ad ak K L c ae (by omega) (by omega) (pG T) (F9 T) (fun ap ar au _ e d=>?_) (fun e d=>?_) B al (by omega) (fun v av=>?_) y h.efs s h.eN z ?_ l ?_ R ?_⟩
 ·obtain⟨g,m,b⟩:=C e d;rw[g];have k:bC w (fun _=>True) m e.2.1 e.1.val:=bC.keep (fun _ _=>trivial) (fun _ _ _ _ _ _=>rfl) m _ _ b;have D:=EW ap m e.1.place e.2.1 e.1.asP e.1.asT e.1.val (k.keepB ar);unfold pG F9;rw[au]at D;exact D
 ·obtain⟨g,m,b⟩:=C e d;obtain⟨v,ax,k⟩:=bC.isI _ _ _ b;exact Or.inr ⟨v,ax,k⟩
 ·obtain⟨⟨E,g⟩,F,b⟩:=an v av;refine⟨max E F,bC.up E _ _ _ (by omega) (bC.keep (fun _ _=>trivial) (fun _ _ _ _ _ _=>rfl) _ _ _ g),bC.up F _ _ _ (by omega) (bC.keep (fun _ _=>trivial) (fun _ _ _ _ _ _=>rfl) _ _ _ b)⟩
 ·rw[h.ech,<-u,Ml];rfl
 ·rw[h.el,<-j,Ml,Ml,Ml];rfl
 ·rw[h.eR,<-j,<-u,List.foldl_map,List.foldl_map];rfl
def sh(a:Nat->Addr)(w:World)(k m:Nat)(g:Nat)(l:List (List Int))(h:List bH)(R:Option (Nat×Nat))(e:Ending)(w':World):Prop:=aF k m w w'/\
 (∀i j,R=some (i,j)-> ∃c,e=.returned (.tuple #[.agg #[.slice none 0 0,.slice none 0 0],.iface 110 (.pointer (some ⟨c,0,none⟩))])/\w.heap.size<=c/\w'.heap[c]? =some (.cells #[.int .i64 (i:Nat),bI a j] 113 (0,0)))/\
 (R=none->4000<g->e=.returned (.tuple #[.agg #[.slice none 0 0,.slice none 0 0],bI a cB]))/\
 (R=none->g<=4000-> ∃d f b,b.map (·.1)=h/\e=.returned (.tuple #[.agg #[.slice (some ⟨d,0,none⟩) b.length b.length,.slice (some ⟨f,0,none⟩) l.length l.length],.nilIface])/\w.heap.size<=d/\w.heap.size<=f/\w'.heap[d]? =some (.cells (fR b).toArray 9 (0,0))/\eZ w' w.heap.size f h.length (iY l))
end
section
open Go.RowKit Go.Extern.Stop Go.Stop Go.Extern Tryz
theorem rC(t:Addr)(w:World):(ReflectliteValue.unpack (.iface 284 (.pointer (some t)))).run prog w
  =.ok (.agg #[.pointer (some ⟨17,284,none⟩),.pointer (some ⟨w.heap.size,0,none⟩),.int .u64 150]) (w.alloc (.cells #[.pointer (some t)] 284)):=by kernel_rfl
theorem yk(a:Addr)(w:World):(ReflectliteValue.methodAny (ReflectliteValue.valueError "reflectlite.Value.Type" 0) (fun t _ _ _=>ReflectliteType.toType t) #[.agg #[.pointer (some ⟨17,284,none⟩),.pointer (some a),.int .u64 150]]).run prog w
  =.ok (.iface 192 (.agg #[.pointer (some ⟨17,284,none⟩)])) w:=by kernel_rfl
theorem qg(a:Value)(w:World):(Go.method 639 192 (.agg #[a]) "Kind").run prog w=.ok (367,a) w:=by kernel_rfl
theorem yl(w:World):((ReflectliteType.abiMethod fun t=>(fun a:Nat=>Value.int IntKind.u8 (a:Int))<$>Rtype.kind t) #[.pointer (some ⟨17,284,none⟩)]).run prog w=.ok (.int .u8 22) w:=by kernel_rfl
theorem AL(w:World):((ReflectliteType.abiMethod fun t=>(fun a:Nat=>Value.int IntKind.u8 (a:Int))<$>Rtype.kind t) #[.pointer (some ⟨17,110,none⟩)]).run prog w=.ok (.int .u8 22) w:=by kernel_rfl
theorem vC(a:Addr)(w:World):(ReflectliteValue.parts (.agg #[.pointer (some ⟨17,284,none⟩),.pointer (some a),.int .u64 150])).run prog w=.ok (some (284,a,150)) w:=by kernel_rfl
theorem AM(a p:Addr)(W:World)(b:W.cell? a=some (.pointer (some p))):
  (ReflectliteValue.method (ReflectliteValue.valueError "reflectlite.Value.IsNil" 0) ReflectliteValue.isNil #[.agg #[.pointer (some ⟨17,284,none⟩),.pointer (some a),.int .u64 150]]).run prog W=.ok (.bool false) W:=by
 have c:ReflectliteValue.method (ReflectliteValue.valueError "reflectlite.Value.IsNil" 0) ReflectliteValue.isNil #[.agg #[.pointer (some ⟨17,284,none⟩),.pointer (some a),.int .u64 150]]=(ReflectliteValue.parts (.agg #[.pointer (some ⟨17,284,none⟩),.pointer (some a),.int .u64 150])>>=_):=rfl;rw[c];simp only[MM,vC,Result.andThen];simp[ReflectliteValue.isNil,loadVar,isAgg,underlying,underlying284,b,Result.andThen]
theorem qh(a:Value)(w:World):(Go.method 639 192 (.agg #[a]) "Elem").run prog w=.ok (377,.agg #[a]) w:=by kernel_rfl
theorem lO(a:Value)(w:World):(Go.method 639 192 (.agg #[a]) "Implements").run prog w=.ok (378,.agg #[a]) w:=by kernel_rfl
theorem kM(a:Value)(w:World):(Go.method 639 192 (.agg #[a]) "AssignableTo").run prog w=.ok (375,.agg #[a]) w:=by kernel_rfl
theorem Dd(w:World):(ReflectliteType.method ReflectliteType.elem #[.agg #[.pointer (some ⟨17,284,none⟩)]]).run prog w=.ok (.iface 192 (.agg #[.pointer (some ⟨17,110,none⟩)])) w:=by kernel_rfl
theorem qi(w:World):(ReflectliteType.relation "Implements" ReflectliteType.implements_ #[.agg #[.pointer (some ⟨17,110,none⟩)],.iface 192 (.agg #[.pointer (some ⟨17,23,none⟩)])]).run prog w=.ok (.bool true) w:=by kernel_rfl
theorem De(v:Value)(w:World):(ReflectliteType.typeOf #[.iface 110 v]).run prog w=.ok (.iface 192 (.agg #[.pointer (some ⟨17,110,none⟩)])) w:=by kernel_rfl
theorem ym(w:World):(ReflectliteType.relation "AssignableTo" ReflectliteType.assignableTo #[.agg #[.pointer (some ⟨17,110,none⟩)],.iface 192 (.agg #[.pointer (some ⟨17,110,none⟩)])]).run prog w=.ok (.bool true) w:=by kernel_rfl
theorem tH(w:World):(ReflectliteType.relation "AssignableTo" ReflectliteType.assignableTo #[.agg #[.pointer (some ⟨17,496,none⟩)],.iface 192 (.agg #[.pointer (some ⟨17,110,none⟩)])]).run prog w=.ok (.bool false) w:=by kernel_rfl
theorem BH(e:Addr)(w:World):(ReflectliteValue.unpack (.iface 110 (.pointer (some e)))).run prog w
  =.ok (.agg #[.pointer (some ⟨17,110,none⟩),.pointer (some ⟨w.heap.size,0,none⟩),.int .u64 150]) (w.alloc (.cells #[.pointer (some e)] 110)):=by kernel_rfl
theorem Fe(w:World):(Rtype.elem? 284).run prog w=.ok (some 110) w:=by kernel_rfl
theorem IX(p:Addr)(w:World):(ReflectliteValue.mk 110 p ReflectliteValue.flagAddr).run prog w=.ok (.agg #[.pointer (some ⟨17,110,none⟩),.pointer (some p),.int .u64 406]) w:=by kernel_rfl
theorem GH(a p:Addr)(W:World)(b:W.cell? a=some (.pointer (some p))):
  (ReflectliteValue.method (ReflectliteValue.valueError "reflectlite.Value.Elem" 0) ReflectliteValue.elem #[.agg #[.pointer (some ⟨17,284,none⟩),.pointer (some a),.int .u64 150]]).run prog W
   =.ok (.agg #[.pointer (some ⟨17,110,none⟩),.pointer (some p),.int .u64 406]) W:=by
 have c:ReflectliteValue.method (ReflectliteValue.valueError "reflectlite.Value.Elem" 0) ReflectliteValue.elem #[.agg #[.pointer (some ⟨17,284,none⟩),.pointer (some a),.int .u64 150]]=(ReflectliteValue.parts (.agg #[.pointer (some ⟨17,284,none⟩),.pointer (some a),.int .u64 150])>>=_):=rfl;rw[c];simp only[MM,vC,Result.andThen];simp[ReflectliteValue.elem,loadVar,isAgg,underlying,underlying284,b,Result.andThen,Fe,IX]
theorem Ff(a:Addr)(w:World):(ReflectliteValue.parts (.agg #[.pointer (some ⟨17,110,none⟩),.pointer (some a),.int .u64 406])).run prog w=.ok (some (110,a,406)) w:=by kernel_rfl
theorem Fg(a:Addr)(w:World):(ReflectliteValue.parts (.agg #[.pointer (some ⟨17,110,none⟩),.pointer (some a),.int .u64 150])).run prog w=.ok (some (110,a,150)) w:=by kernel_rfl
theorem Fh(w:World):(Rtype.directlyAssignable 110 110).run prog w=.ok true w:=by kernel_rfl
theorem IG(a b e:Addr)(c:Value)(W:World)(d:W.cell? b=some (.pointer (some e)))(f:W.cell? a=some c)(g:W.frozen? a=false):
  (ReflectliteValue.set #[.agg #[.pointer (some ⟨17,110,none⟩),.pointer (some a),.int .u64 406],.agg #[.pointer (some ⟨17,110,none⟩),.pointer (some b),.int .u64 150]]).run prog W
   =.ok (.tuple #[]) (W.setCell a (.pointer (some e))):=by
 have h:ReflectliteValue.set #[.agg #[.pointer (some ⟨17,110,none⟩),.pointer (some a),.int .u64 406],.agg #[.pointer (some ⟨17,110,none⟩),.pointer (some b),.int .u64 150]]=(ReflectliteValue.parts (.agg #[.pointer (some ⟨17,110,none⟩),.pointer (some a),.int .u64 406])>>=fun i=>ReflectliteValue.parts (.agg #[.pointer (some ⟨17,110,none⟩),.pointer (some b),.int .u64 150])>>=fun j=>_):=rfl;rw[h];simp only[MM,Ff,Fg,Result.andThen];simp[ReflectliteValue.flagAddr,loadVar,isAgg,underlying,underlying110,d,Result.andThen,Fh,storeVar,Value.cells,storeCells,Addr.add];rw[run_store prog W a _ _ (by rfl)];simp[f,g]
theorem II(v:Value)(a:TypeId)(w:World):(Instr.typeAssert (.iface 496 v) a 414 true).run prog w=.ok (.tuple #[.nilIface,.bool false]) w:=KV underlying414 (by kernel_rfl) (by kernel_rfl) v a w
def ij(w:World):Prop:=w.cell? ⟨10,0,none⟩=some (.iface 192 (.agg #[.pointer (some ⟨17,23,none⟩)]))
theorem ij.keep{a:Nat}{w w':World}(b:ij w)(c:10<a)(d:Below a w w'):ij w':=(d.cell (p:=⟨10,0,none⟩) c).trans b
theorem Ig(e t:Addr)(a:Value)(w:World)(b:ij w)(c:w.cell? t=some a)(g:w.frozen? t=false):
  Calls prog 122 #[.iface 110 (.pointer (some e)),.iface 284 (.pointer (some t))] w fun h w'=>h=.returned (.bool true)/\ ∃W,w'=W.setCell t (.pointer (some e))/\Below w.heap.size w W:=by
 have k:= @JH prog 189 _ (fun i=>ReflectliteValue.unpack (i.getD 0 (.tuple #[]))) func189 (by kernel_rfl) (by kernel_rfl) (by kernel_rfl) (by kernel_rfl)
 have l:= @JH prog 190 _ (ReflectliteValue.methodAny (ReflectliteValue.valueError "reflectlite.Value.Type" 0) (fun t _ _ _=>ReflectliteType.toType t)) func190 (by kernel_rfl) (by kernel_rfl) (by kernel_rfl) (by kernel_rfl)
 have m:= @JH prog 191 _ (ReflectliteValue.method (ReflectliteValue.valueError "reflectlite.Value.IsNil" 0) ReflectliteValue.isNil) func191 (by kernel_rfl) (by kernel_rfl) (by kernel_rfl) (by kernel_rfl);have n:= @JH prog 367 _ (ReflectliteType.abiMethod fun t=>do pure (.int .u8 (<-Rtype.kind t))) func367 (by kernel_rfl) (by kernel_rfl) (by kernel_rfl) (by kernel_rfl);have o:= @JH prog 377 _ (ReflectliteType.method ReflectliteType.elem) func377 (by kernel_rfl) (by kernel_rfl) (by kernel_rfl) (by kernel_rfl)
 have p:= @JH prog 378 _ (ReflectliteType.relation "Implements" ReflectliteType.implements_) func378 (by kernel_rfl) (by kernel_rfl) (by kernel_rfl) (by kernel_rfl);have q:= @JH prog 42 _ ReflectliteType.typeOf func42 (by kernel_rfl) (by kernel_rfl) (by kernel_rfl) (by kernel_rfl)
 have r:= @JH prog 375 _ (ReflectliteType.relation "AssignableTo" ReflectliteType.assignableTo) func375 (by kernel_rfl) (by kernel_rfl) (by kernel_rfl) (by kernel_rfl)
 have s:= @JH prog 240 _ (ReflectliteValue.method (ReflectliteValue.valueError "reflectlite.Value.Elem" 0) ReflectliteValue.elem) func240 (by kernel_rfl) (by kernel_rfl) (by kernel_rfl) (by kernel_rfl);have u:= @JH prog 241 _ ReflectliteValue.set func241 (by kernel_rfl) (by kernel_rfl) (by kernel_rfl) (by kernel_rfl);have v:=De;have x:=kM;have y:=ym;have z:=BH;have f6:=rC;have f7:=yk;have A:=qg;have B:=qh;have C:=lO;have D:=yl;have E:=AL;have F:=Dd;have G:=qi;have d:w.cell? ⟨10,0,none⟩=some (.iface 192 (.agg #[.pointer (some ⟨17,23,none⟩)])):=b;have j:10<w.heap.size:=JR w _ d;clear b;have f:=JR w _ c;have H:=AM ⟨w.heap.size,0,none⟩ t ((w.alloc (.cells #[.pointer (some t)] 284)).alloc (.cells #[.pointer (some ⟨17,284,none⟩),.pointer (some ⟨w.heap.size,0,none⟩),.int .u64 150] 349)) (by simp);have I:((w.alloc (.cells #[.pointer (some t)] 284)).alloc (.cells #[.pointer (some ⟨17,284,none⟩),.pointer (some ⟨w.heap.size,0,none⟩),.int .u64 150] 349)).cell? ⟨10,0,none⟩=some (.iface 192 (.agg #[.pointer (some ⟨17,23,none⟩)])):=by rw[JS _ _ ⟨10,0,none⟩ (by simp;omega),JS _ _ ⟨10,0,none⟩ j];exact d
 have el:=GH ⟨w.heap.size,0,none⟩ t (((w.alloc (.cells #[.pointer (some t)] 284)).alloc (.cells #[.pointer (some ⟨17,284,none⟩),.pointer (some ⟨w.heap.size,0,none⟩),.int .u64 150] 349)).alloc (.cells #[.pointer (some ⟨17,284,none⟩),.pointer (some ⟨w.heap.size,0,none⟩),.int .u64 150] 349)) (by rw[JS _ _ ⟨w.heap.size,0,none⟩ (by simp;omega)];simp)
 have J:=IG t ⟨w.heap.size+1+1+1,0,none⟩ e a ((((w.alloc (.cells #[.pointer (some t)] 284)).alloc (.cells #[.pointer (some ⟨17,284,none⟩),.pointer (some ⟨w.heap.size,0,none⟩),.int .u64 150] 349)).alloc (.cells #[.pointer (some ⟨17,284,none⟩),.pointer (some ⟨w.heap.size,0,none⟩),.int .u64 150] 349)).alloc (.cells #[.pointer (some e)] 110))
  (by rw[World.cell?_alloc_at _ _ _ _ (by simp)];rfl)
  (by rw[JS _ _ t (by simp;omega),JS _ _ t (by simp;omega),JS _ _ t (by simp;omega),JS _ _ t f];exact c)
  (by rw[Ll _ _ t (by simp;omega),Ll _ _ t (by simp;omega),Ll _ _ t (by simp;omega),Ll _ _ t (Nat.ne_of_lt f)];exact g)
 go_enter func122,ntmps122;go_wp2;refine Lv 1 ?_;rw[Lq];go_wp2;go_ret;refine⟨rfl,_,rfl,?_⟩
 repeat(first|exact Jj _ _|refine JY ?_ (by simp;try omega) _)
theorem GI(e t:Addr)(w:World)(a:ij w):
  Calls prog 122 #[.iface 496 (.pointer (some e)),.iface 284 (.pointer (some t))] w fun c w'=>c=.returned (.bool false)/\Below w.heap.size w w':=by
 have g:= @JH prog 189 _ (fun d=>ReflectliteValue.unpack (d.getD 0 (.tuple #[]))) func189 (by kernel_rfl) (by kernel_rfl) (by kernel_rfl) (by kernel_rfl)
 have h:= @JH prog 190 _ (ReflectliteValue.methodAny (ReflectliteValue.valueError "reflectlite.Value.Type" 0) (fun t _ _ _=>ReflectliteType.toType t)) func190 (by kernel_rfl) (by kernel_rfl) (by kernel_rfl) (by kernel_rfl)
 have i:= @JH prog 191 _ (ReflectliteValue.method (ReflectliteValue.valueError "reflectlite.Value.IsNil" 0) ReflectliteValue.isNil) func191 (by kernel_rfl) (by kernel_rfl) (by kernel_rfl) (by kernel_rfl);have j:= @JH prog 367 _ (ReflectliteType.abiMethod fun t=>do pure (.int .u8 (<-Rtype.kind t))) func367 (by kernel_rfl) (by kernel_rfl) (by kernel_rfl) (by kernel_rfl);have k:= @JH prog 377 _ (ReflectliteType.method ReflectliteType.elem) func377 (by kernel_rfl) (by kernel_rfl) (by kernel_rfl) (by kernel_rfl)
 have l:= @JH prog 378 _ (ReflectliteType.relation "Implements" ReflectliteType.implements_) func378 (by kernel_rfl) (by kernel_rfl) (by kernel_rfl) (by kernel_rfl);have m:= @JH prog 42 _ ReflectliteType.typeOf func42 (by kernel_rfl) (by kernel_rfl) (by kernel_rfl) (by kernel_rfl)
 have n:= @JH prog 375 _ (ReflectliteType.relation "AssignableTo" ReflectliteType.assignableTo) func375 (by kernel_rfl) (by kernel_rfl) (by kernel_rfl) (by kernel_rfl);have o:=oO;have p:=kM;have q:=tH;have f6:=rC;have f7:=yk;have r:=qg;have s:=qh;have u:=lO;have v:=yl;have x:=AL;have y:=Dd;have z:=qi;have A:=II;have B:=pM;have C:=oP;have b:w.cell? ⟨10,0,none⟩=some (.iface 192 (.agg #[.pointer (some ⟨17,23,none⟩)])):=a;have f:10<w.heap.size:=JR w _ b;clear a;have D:=AM ⟨w.heap.size,0,none⟩ t ((w.alloc (.cells #[.pointer (some t)] 284)).alloc (.cells #[.pointer (some ⟨17,284,none⟩),.pointer (some ⟨w.heap.size,0,none⟩),.int .u64 150] 349)) (by simp);have E:((w.alloc (.cells #[.pointer (some t)] 284)).alloc (.cells #[.pointer (some ⟨17,284,none⟩),.pointer (some ⟨w.heap.size,0,none⟩),.int .u64 150] 349)).cell? ⟨10,0,none⟩=some (.iface 192 (.agg #[.pointer (some ⟨17,23,none⟩)])):=by rw[JS _ _ ⟨10,0,none⟩ (by simp;omega),JS _ _ ⟨10,0,none⟩ f];exact b
 go_enter func122,ntmps122;go_wp2;refine Lv 1 ?_;rw[Lq];go_wp2;go_ret;refine⟨rfl,?_⟩
 repeat(first|exact Jj _ _|refine JY ?_ (by simp;try omega) _)
end
section
open Go.RowKit Tryz
theorem Df(b:Nat)(p:Int)(k:Value)(H: ∃v,k=.iface 496 v)(w:World)(l:ij w)(g:w.heap[b]? =some (.cells #[.int .i64 p,k] 113 (0,0))):
  Calls prog 80 #[.iface 110 (.pointer (some ⟨b,0,none⟩))] w fun e w'=> ∃m,e=.returned (.iface 110 (.pointer (some ⟨m,0,none⟩)))/\w.heap.size<=m/\w'.heap[m]? =some (.cells #[.int .i64 p,k] 113 (0,0))/\Below w.heap.size w w':=by
 obtain⟨v,rfl⟩:=H;have c:Below w.heap.size w (w.alloc (.cells #[.pointer none] 110)):=(Jj _ _).alloc (Ji _) _;have d:(w.alloc (.cells #[.pointer none] 110)).heap[w.heap.size]? =some (.cells #[.pointer none] 110 (0,0)):=af rfl;have I:10<w.heap.size:=JR w _ l;obtain⟨n,h⟩:=ag (l.keep I c) ((c.block b (aa g)).trans g);have M:=aa g
 have t:Hid (∃f,f=w.alloc (.cells #[.pointer none] 110)):=⟨_,rfl⟩
 obtain⟨f,o⟩:=U t;rw[<-o]at c d n h;obtain⟨J,u⟩:=ag o c;have K:=aa d;obtain⟨x,y⟩:=blk d;have z:f.cell? ⟨w.heap.size,0,none⟩=some (.pointer none):=x 0;have A:f.frozen? ⟨w.heap.size,0,none⟩=false:=y 0;obtain⟨B,C⟩:=ag (Ig ⟨b,0,none⟩ ⟨w.heap.size,0,none⟩ _ f n z A) d;clear l g c d o t x y z A;go_enter func80,ntmps80;go_wp2_with fail;rw[<-U J];refine B.mono ?_;rintro e N ⟨rfl,a,rfl,i⟩;have D:=(i.block _ K).trans C;have E:=(i.block _ (aa h)).trans h;have q:(a.setCell ⟨w.heap.size,0,none⟩ (.pointer (some ⟨b,0,none⟩))).heap[w.heap.size]? =some (.cells #[.pointer (some ⟨b,0,none⟩)] 110 (0,0)):=(am D _).trans rfl;have r:(a.setCell ⟨w.heap.size,0,none⟩ (.pointer (some ⟨b,0,none⟩))).heap[b]? =some (.cells #[.int .i64 p,.iface 496 v] 113 (0,0)):=by rw[Jp _ _ _ _ (by show b≠w.heap.size;omega)];exact E
 have F:Hid (Below w.heap.size w (a.setCell ⟨w.heap.size,0,none⟩ (.pointer (some ⟨b,0,none⟩)))):=(u.trans (i.mono u.size)).setCell (Ji _) _;generalize a.setCell ⟨w.heap.size,0,none⟩ (.pointer (some ⟨b,0,none⟩))=j at*;obtain⟨G,f1⟩:=blk q;obtain⟨s,f2⟩:=blk r;have O:=aa q;have P:=aa r;have L:=F.size;clear i D E q r C h n B;have Q:j.cell? ⟨w.heap.size,0,none⟩=some (.pointer (some ⟨b,0,none⟩)):=G 0;have R:j.cell? ⟨b,0,none⟩=some (.int .i64 p):=s 0;have S:j.cell? ⟨b,1,none⟩=some (.iface 496 v):=s 1;clear G f1 s f2;go_wp2_with fail
 go_region_held3 (fun a=>a.cell? ⟨w.heap.size,0,none⟩=some (.pointer (some ⟨b,0,none⟩))/\a.cell? ⟨b,0,none⟩=some (.int .i64 p)/\a.cell? ⟨b,1,none⟩=some (.iface 496 v)) (go_keep) (first|fail)
 all_goals
  go_wp2;go_ret;refine⟨j.heap.size,rfl,L,af (by simp),?_⟩
  repeat(first|exact U F|apply JI|refine JY ?_ (by first|omega|(simp;omega)) _)
theorem GJ(a:Addr)(w:World)(b:ij w):
  Calls prog 80 #[.iface 496 (.pointer (some a))] w fun e w'=>e=.returned (.iface 496 (.pointer (some a)))/\Below w.heap.size w w':=by
 have c:Below w.heap.size w (w.alloc (.cells #[.pointer none] 110)):=(Jj _ _).alloc (Ji _) _;have g:10<w.heap.size:=JR w _ b;obtain⟨h,d⟩:=ag (GI a ⟨w.heap.size,0,none⟩ _ (b.keep g c)) c;clear b c;go_enter func80,ntmps80;go_wp2_with fail;refine h.mono ?_;rintro e i ⟨rfl,f⟩;have j:Hid (Below w.heap.size w i):=d.trans (f.mono d.size);clear f;go_wp2;go_ret;exact⟨rfl,j⟩
end
end Go.Proofs.YtfkeddkfegaeiaaGreatDoor
