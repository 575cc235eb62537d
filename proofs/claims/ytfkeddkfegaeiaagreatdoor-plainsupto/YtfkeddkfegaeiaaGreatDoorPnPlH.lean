import Derived.Test.YtfkeddkfegaeiaaGreatDoorPnPlC
set_option maxRecDepth 100000
set_option maxHeartbeats 20000000
namespace Go.Proofs.YtfkeddkfegaeiaaGreatDoor
section
open Go.RowKit Tryz
theorem FA.trans{c:Fc}{F h i:Fx}{w j l:World}{a b d:Value}{e:Nat}{f:List Sr}{n m:Option (Nat×Nat)}(g:FA c F w a b d e f n j h)(k:FA c h j a b d e f m l i):FA c F w a b d e f m l i:=
 ⟨g.1.trans k.1 g.2.1.size,g.2.1.trans k.2.1,k.2.2⟩
theorem FA.ofDrew{c:Fc}{F b:Fx}{w d:World}{e f g:Value}{h:Nat}{i:List Sr}{j:Option (Nat×Nat)}(a:FA c F w.drew e f g h i j d b):FA c F w e f g h i j d b:=⟨a.1,((Kp.refl c.fb w).drew).trans a.2.1,a.2.2⟩
theorem aZ.setOff{lo p b off:Nat}{F:Fx}{c:List Value}{W:World}(a:aZ lo F p c W)(f:F b=none)(u:Value):aZ lo F p c (W.setCell ⟨b,off,none⟩ u):=
 ⟨fun k o e=>⟨(a.fits k o e).1,by rw[Jp _ _ _ _ (fun d=>by simp at d;rw[d,f]at e;cases e)];exact(a.fits k o e).2⟩,a.offp,by simpa using a.ltp,fun v g k e=>by simpa using a.off v g k e,a.dis⟩
structure Bx(c:Fc)(lo:Nat)(w:World)(F:Fx)(b:Nat)(u:Value)(T:TypeId):Prop where
 lo:lo<=b
 at':w.heap[b]? =some (.cells #[u] T (0,0))
 off:F b=none
 offX:c.X b=false
 ne:b≠c.fb
theorem Bx.new{c:Fc}{lo:Nat}{F:Fx}{w:World}{e f g h:Value}{i:Nat}{j:List Sr}{er:Option (Nat×Nat)}{u:Value}{T:TypeId}{b:Nat}(a:FS c F w e f g h i j er)(k:lo<=w.heap.size)(l:b=w.heap.size):Bx c lo (w.alloc (.cells #[u] T (0,0))) F b u T:=by
 subst l;refine⟨k,af rfl,a.grow.noneF (Ji _),?_,fun d=>by have:=a.grow.ltp;omega⟩
 cases d:c.X w.heap.size with
 |false=>rfl
 |true=>have:=a.fbX _ d;omega
theorem Bx.alloc{c:Fc}{lo:Nat}{F:Fx}{w:World}{u:Value}{T:TypeId}{b:Nat}(a:Bx c lo w F b u T)(o:Obj):Bx c lo (w.alloc o) F b u T:=⟨a.lo,ai a.at',a.off,a.offX,a.ne⟩
theorem Bx.call{c:Fc}{lo:Nat}{F d:Fx}{w w':World}{f g h:Value}{i:Nat}{j:List Sr}{er:Option (Nat×Nat)}(e:FA c F w f g h i j er w' d){u:Value}{T:TypeId}{b:Nat}(a:Bx c lo w F b u T):Bx c lo w' d b u T:=
 ⟨a.lo,(e.2.1.block b (aa a.at') a.ne).trans a.at',(e.1.old b (aa a.at')).trans a.off,a.offX,a.ne⟩
theorem FA.write{c:Fc}{F e:Fx}{w w':World}{f g h r:Value}{i:Nat}{j:List Sr}{er er':Option (Nat×Nat)}(p:FS c F w f g h r i j er)(s:FA c F w f g h i j er' w' e){b:Nat}{u:Value}{T:TypeId}(a:Bx c w.heap.size w' e b u T)(x:Value):
  FA c F w f g h i j er' (w'.setCell ⟨b,0,none⟩ x) (e.set b (.cells #[x] T (0,0)))/\(e.set b (.cells #[x] T (0,0))).off c.X b=some (.cells #[x] T (0,0))/\(e.off c.X).le ((e.set b (.cells #[x] T (0,0))).off c.X):=by
 obtain⟨t,v,q,d⟩:=s;have l:c.w0.heap.size<=b:=Jt p.old.size a.lo;have k: ∀m∈ [f,g,h],m.ownBlock≠some b:=fun m k o=>by have:=(p.grow.off m k b o).2.2.2;have:=a.lo;omega
 have y:FS c e (w'.setCell ⟨b,0,none⟩ x) f g h q i j er':=
  ⟨d.env.keep ((Jj _ _).setCell l _),d.old.setCell l _,d.grow.setOff a.off x,(Jp _ _ _ _ (Lm a.ne)).trans d.box,d.err,d.tabs,bD d.srcs (k f JK),d.few,d.ok,d.wide,fun z o=>by simpa using d.fbX z o,d.low⟩
 have A:(w'.setCell ⟨b,0,none⟩ x).heap[b]? =some (.cells #[x] T (0,0)):=(am a.at' x).trans rfl;exact⟨⟨t.trans (kY.set (n:=w.heap.size) _ a.lo a.off) (Ji _),v.setNew a.lo _,q,y.fix A l a.ne k a.off⟩,Fx.off_some (Fx.set_same _ _ _) a.offX,Fx.off_mono (Fx.le_set _ a.off) c.X⟩
theorem Bx.write{c:Fc}{lo:Nat}{F:Fx}{w:World}{u x f:Value}{T g:TypeId}{b d:Nat}(a:Bx c lo w F b u T)(e:b≠d):Bx c lo (w.setCell ⟨d,0,none⟩ x) (F.set d (.cells #[f] g (0,0))) b u T:=
 ⟨a.lo,(Jp _ _ _ _ e).trans a.at',(Fx.set_other F _ e).trans a.off,a.offX,a.ne⟩
theorem FA.write2{c:Fc}{F a:Fx}{w w':World}{f g h m:Value}{i:Nat}{j:List Sr}{er er':Option (Nat×Nat)}{k:Prop}(l:FS c F w f g h m i j er)(n:FA c F w f g h i j er' w' a){b d:Nat}{u o:Value}{T e:TypeId}(p:Bx c w.heap.size w' a b u T)(q:Bx c w.heap.size w' a d o e)(r:d≠b)(x x':Value)(s:k):
  FA c F w f g h i j er' ((w'.setCell ⟨b,0,none⟩ x).setCell ⟨d,0,none⟩ x') ((a.set b (.cells #[x] T (0,0))).set d (.cells #[x'] e (0,0)))/\((a.set b (.cells #[x] T (0,0))).set d (.cells #[x'] e (0,0))).off c.X b=some (.cells #[x] T (0,0))/\((a.set b (.cells #[x] T (0,0))).set d (.cells #[x'] e (0,0))).off c.X d=some (.cells #[x'] e (0,0))/\(a.off c.X).le (((a.set b (.cells #[x] T (0,0))).set d (.cells #[x'] e (0,0))).off c.X)/\k:=by
 obtain⟨t,v,y⟩:=FA.write l n p x;obtain⟨d1,d2,d3⟩:=FA.write l t (q.write r) x';exact⟨d1,d3 _ _ v,d2,y.trans d3,s⟩
theorem CU{c:Fc}{F e:Fx}{w w':World}{f g h:Value}{i:Nat}{j:List Sr}{er':Option (Nat×Nat)}{k:Prop}(l:FA c F w f g h i j er' w' e){b a:Nat}{T d:TypeId}{x x':Value}(m:b=w'.heap.size)(n:a=w'.heap.size+1)(p:k):FA c F w f g h i j er' ((w'.alloc (.cells #[x] T)).alloc (.cells #[x'] d)) ((e.set b (.cells #[x] T (0,0))).set a (.cells #[x'] d (0,0)))/\((e.set b (.cells #[x] T (0,0))).set a (.cells #[x'] d (0,0))).off c.X b=some (.cells #[x] T (0,0))/\((e.set b (.cells #[x] T (0,0))).set a (.cells #[x'] d (0,0))).off c.X a=some (.cells #[x'] d (0,0))/\(e.off c.X).le (((e.set b (.cells #[x] T (0,0))).set a (.cells #[x'] d (0,0))).off c.X)/\k:=by obtain⟨q,r,s⟩:=FA.fix l (o:=.cells #[x] T) m;obtain⟨d1,d2,d3⟩:=FA.fix q (o:=.cells #[x'] d) (b:=a) (by simpa using n);exact⟨d1,d3 _ _ r,d2,s.trans d3,p⟩
theorem CV{c:Fc}{F d:Fx}{w w':World}{f g h:Value}{i:Nat}{j:List Sr}{er':Option (Nat×Nat)}{k:Prop}(l:FA c F w f g h i j er' w' d){b e:Nat}{T a:TypeId}{x x':Value}(m:e=w'.heap.size)(n:b=w'.heap.size+1)(p:k):FA c F w f g h i j er' ((w'.alloc (.cells #[x'] a)).alloc (.cells #[x] T)) ((d.set e (.cells #[x'] a (0,0))).set b (.cells #[x] T (0,0)))/\((d.set e (.cells #[x'] a (0,0))).set b (.cells #[x] T (0,0))).off c.X b=some (.cells #[x] T (0,0))/\((d.set e (.cells #[x'] a (0,0))).set b (.cells #[x] T (0,0))).off c.X e=some (.cells #[x'] a (0,0))/\(d.off c.X).le (((d.set e (.cells #[x'] a (0,0))).set b (.cells #[x] T (0,0))).off c.X)/\k:=by obtain⟨q,r,s⟩:=FA.fix l (o:=.cells #[x'] a) m;obtain⟨d1,d2,d3⟩:=FA.fix q (o:=.cells #[x] T) (b:=b) (by simpa using n);exact⟨d1,d2,d3 _ _ r,s.trans d3,p⟩
theorem lM{c:Fc}{F a:Fx}{w w':World}{f g h l:Value}{i:Nat}{j:List Sr}{er er':Option (Nat×Nat)}{k:Prop}(m:FS c F w f g h l i j er)(n:FA c F w f g h i j er' w' a){b d:Nat}{T e:TypeId}{x x':Value}{u:Value}(p:Bx c w.heap.size w' a b u T)(q:d=w'.heap.size)(r:k):FA c F w f g h i j er' ((w'.setCell ⟨b,0,none⟩ x).alloc (.cells #[x'] e)) ((a.set b (.cells #[x] T (0,0))).set d (.cells #[x'] e (0,0)))/\((a.set b (.cells #[x] T (0,0))).set d (.cells #[x'] e (0,0))).off c.X b=some (.cells #[x] T (0,0))/\((a.set b (.cells #[x] T (0,0))).set d (.cells #[x'] e (0,0))).off c.X d=some (.cells #[x'] e (0,0))/\(a.off c.X).le (((a.set b (.cells #[x] T (0,0))).set d (.cells #[x'] e (0,0))).off c.X)/\k:=by obtain⟨s,t,v⟩:=FA.write m n p x;obtain⟨d1,d2,d3⟩:=FA.fix s (o:=.cells #[x'] e) (b:=d) (by simpa using q);exact⟨d1,d3 _ _ t,d2,v.trans d3,r⟩
theorem lN{c:Fc}{F a:Fx}{w w':World}{f g h l:Value}{i:Nat}{j:List Sr}{er er':Option (Nat×Nat)}{k:Prop}(m:FS c F w f g h l i j er)(n:FA c F w f g h i j er' w' a){b d:Nat}{T e:TypeId}{x x':Value}{u:Value}(p:Bx c w.heap.size w' a d u e)(q:b=w'.heap.size)(r:k):FA c F w f g h i j er' ((w'.setCell ⟨d,0,none⟩ x').alloc (.cells #[x] T)) ((a.set d (.cells #[x'] e (0,0))).set b (.cells #[x] T (0,0)))/\((a.set d (.cells #[x'] e (0,0))).set b (.cells #[x] T (0,0))).off c.X b=some (.cells #[x] T (0,0))/\((a.set d (.cells #[x'] e (0,0))).set b (.cells #[x] T (0,0))).off c.X d=some (.cells #[x'] e (0,0))/\(a.off c.X).le (((a.set d (.cells #[x'] e (0,0))).set b (.cells #[x] T (0,0))).off c.X)/\k:=by obtain⟨s,t,v⟩:=FA.write m n p x';obtain⟨d1,d2,d3⟩:=FA.fix s (o:=.cells #[x] T) (b:=b) (by simpa using q);exact⟨d1,d2,d3 _ _ t,v.trans d3,r⟩
theorem FA.from{c:Fc}{F b:Fx}{w d w':World}{e f g:Value}{h:Nat}{i:List Sr}{er':Option (Nat×Nat)}(j:Below w.heap.size w d)(a:FA c F d e f g h i er' w' b):FA c F w e f g h i er' w' b:=⟨a.1.mono j.size,(Kp.ofBelow j).trans a.2.1,a.2.2⟩
theorem CW(c:Fc)(n:Nat)(aj:Hid (jR c n))(F:Fx)(W:World)(N O P av:Value)(D:Nat)(s:List Sr)(er S Q:Option (Nat×Nat))(ax:FS c F W N O P av D s er)(b:Nat)(p:Int)(T:ByteArray)(x ay:Value)(k m:List Nd)(aA:c.w0.heap[b]? =some (.cells #[.int .i64 p,x,.string T,ay] 263 (0,0)))(bb:bC c.w0 (fun _=>True) n x k)(bc:bC c.w0 (fun _=>True) n ay m)(ca: ∃u v,x=.iface u v)(cb: ∃u v,ay=.iface u v)(aU:Hid (S=bQ er (cw c.T s k)))(aI:Hid (Q=bQ S (cw c.T s m))):
  Calls prog 290 #[.pointer (some ⟨c.fb,0,none⟩),.pointer (some ⟨b,0,none⟩)] W fun e W'=> ∃g f,e=.returned (.func (.func g) #[] f)/\ ∃H,FA c F W N O P D s Q W' H/\(Q=none->eQ c.w0 (H.off c.X) D g f (fun r=>iK T (dm (a6 c.T s) k r) (dm (a6 c.T s) m r))):=by
 have j:=ab ax;have aV:=(ax.old.block b (aa aA)).trans aA;have be:=aa aV;have cc:b≠c.fb:=by have:=ax.low;have:=aa aA;omega
 have E:Hid (∀ak,Kp c.fb W ak->(∀ap,ak.cell? ⟨b,ap,none⟩= #[.int .i64 p,x,.string T,ay][ap]?)/\b<ak.heap.size):=fun ak bg=>⟨fun ap=>by rw[bg.cell (p:=⟨b,ap,none⟩) be cc];exact(blk aV).1 ap,Js be bg.size⟩
 obtain⟨al,a0⟩:=ag bb bc;have cj:=mj;have cl: ∀(bk:Fn) (first bl:Array Value) (w:World),(Instr.makeFunc bk first bl).run prog w=.ok (.func bk first bl) w:=fun _ _ _ _=>rfl;obtain⟨V,X,rfl⟩:=ca;obtain⟨Y,Z,rfl⟩:=cb;clear ax aA aV bb bc;obtain⟨an,cp⟩:=(U E) _ (Kp.refl _ _);have cq:b<W.heap.size+1:=by omega
 have cr:b≠W.heap.size:=by omega
 have cs:b≠W.heap.size+1:=by omega
 have ct:W.heap.size≠b:=by omega
 have cu:W.heap.size+1≠b:=by omega
 have aJ:W.cell? ⟨b,1,none⟩=some (.iface V X):=an 1;have aL:W.cell? ⟨b,3,none⟩=some (.iface Y Z):=an 3;go_enter func290,ntmps290
 go_upto_region 1 with(fail)
 go_cut [5,6] (fun cd ce ak=> ∃a1 a2 g h f i J H,cd=.pointer (some ⟨a1,0,none⟩)/\ce=.pointer (some ⟨a2,0,none⟩)/\FA c F W N O P D s Q ak H/\H.off c.X a1=some (.cells #[.func (.func g) #[] f] 426 (0,0))/\H.off c.X a2=some (.cells #[.func (.func h) #[] i] 426 (0,0))/\J.le (H.off c.X)/\(Q=none->eQ c.w0 J D g f (dm (a6 c.T s) k)/\eQ c.w0 J D h i (dm (a6 c.T s) m)))
 case first=>
  go_region_held3 (fun bn=>bn.cell? ⟨b,1,none⟩=some (.iface V X)/\bn.cell? ⟨b,3,none⟩=some (.iface Y Z)) (go_keep) (first
   |(go_at_call 247;refine(aj _ k F ((W.drew.alloc (.cells #[.nilFunc] 426)).alloc (.cells #[.nilFunc] 426)) N O P av D s er S (by exact al) (by exact(j.drew.alloc _).alloc _) aU).mono ?_;clear al;rintro e o ⟨g,f,rfl,J,d,A⟩;have K:=ab A;have L:=ab (Bx.call d ((Bx.new j.drew (lo:=W.heap.size) (Ji _) (b:=W.heap.size) rfl).alloc _));have aN:=(blk L.at').1 0;have aR:=(blk L.at').2 0;have cf:=aa L.at';have ao:=ab (Bx.call d (Bx.new (j.drew.alloc _) (lo:=W.heap.size) (by simp) (b:=W.heap.size+1) (by simp)));have a3:=(blk ao.at').1 0;have a4:=(blk ao.at').2 0;have cv:=aa ao.at';have C:=ab (d.from (w:=W) (by exact((Jj _ _).drew.alloc (by simp) _).alloc (by simp) _));obtain⟨R,a5⟩:=(U E) _ C.2.1;have bq:b<o.heap.size+1:=(by omega);have br:b≠o.heap.size:=(by omega);have bs:b≠o.heap.size+1:=(by omega);have bt:o.heap.size≠b:=(by omega);have bu:o.heap.size+1≠b:=(by omega);have aJ:o.cell? ⟨b,1,none⟩=some (.iface V X):=R 1;have aL:o.cell? ⟨b,3,none⟩=some (.iface Y Z):=R 3;obtain⟨ar,ac⟩:=d.2.2;have ad:=ab ac;have aT:W.heap.size<=o.heap.size:=C.2.1.size;clear d A an ac)
   |(go_at_call 247;refine(aj _ k F (W.drew.alloc (.cells #[.nilFunc] 426)) N O P av D s er S (by exact al) (by exact j.drew.alloc _) aU).mono ?_;clear al;rintro e o ⟨g,f,rfl,J,d,A⟩;have K:=ab A;have L:=ab (Bx.call d (Bx.new j.drew (lo:=W.heap.size) (Ji _) (b:=W.heap.size) rfl));have aN:=(blk L.at').1 0;have aR:=(blk L.at').2 0;have cf:=aa L.at';have C:=ab (d.from (w:=W) (by exact(Jj _ _).drew.alloc (by simp) _));obtain⟨R,a5⟩:=(U E) _ C.2.1;have bq:b<o.heap.size+1:=(by omega);have br:b≠o.heap.size:=(by omega);have bs:b≠o.heap.size+1:=(by omega);have bt:o.heap.size≠b:=(by omega);have bu:o.heap.size+1≠b:=(by omega);have aJ:o.cell? ⟨b,1,none⟩=some (.iface V X):=R 1;have aL:o.cell? ⟨b,3,none⟩=some (.iface Y Z):=R 3;obtain⟨ar,ac⟩:=d.2.2;have ad:=ab ac;have aT:W.heap.size<=o.heap.size:=C.2.1.size;clear d A an ac)
   |(go_at_call 247;refine(aj _ k F W.drew N O P av D s er S (by exact al) (by exact j.drew) aU).mono ?_;clear al;rintro e o ⟨g,f,rfl,J,d,A⟩;have K:=ab A;have C:=ab (d.from (w:=W) (by exact(Jj _ _).drew));obtain⟨R,a5⟩:=(U E) _ C.2.1;have bq:b<o.heap.size+1:=(by omega);have br:b≠o.heap.size:=(by omega);have bs:b≠o.heap.size+1:=(by omega);have bt:o.heap.size≠b:=(by omega);have bu:o.heap.size+1≠b:=(by omega);have aJ:o.cell? ⟨b,1,none⟩=some (.iface V X):=R 1;have aL:o.cell? ⟨b,3,none⟩=some (.iface Y Z):=R 3;obtain⟨ar,ac⟩:=d.2.2;have ad:=ab ac;have aT:W.heap.size<=o.heap.size:=C.2.1.size;clear d A an ac)
   |(go_at_call 247;refine(aj _ m J ((o.alloc (.cells #[.nilFunc] 426)).alloc (.cells #[.nilFunc] 426)) N O P ar D s S Q (by exact a0) (by exact(ad.alloc _).alloc _) aI).mono ?_;rintro e t ⟨h,i,rfl,l,d,A⟩;have a9:=ab A;(try(have y:=ab (Bx.call d ((L.alloc _).alloc _));have bv:=(blk y.at').1 0;have bx:=(blk y.at').2 0;have bz:=aa y.at';clear aN aR));(try(have z:=ab (Bx.call d ((ao.alloc _).alloc _));have bA:=(blk z.at').1 0;have bF:=(blk z.at').2 0;have bG:=aa z.at';clear a3 a4));have B:=ab (Bx.call d ((Bx.new ad (lo:=W.heap.size) aT (b:=o.heap.size) rfl).alloc _));have cg:=(blk B.at').1 0;have ch:=(blk B.at').2 0;have ci:=aa B.at';have G:=ab (Bx.call d (Bx.new (ad.alloc _) (lo:=W.heap.size) (by simp;omega) (b:=o.heap.size+1) (by simp)));have cz:=(blk G.at').1 0;have cF:=(blk G.at').2 0;have cI:=aa G.at';have M:=ab d.1.le;have a:=ab (C.trans (d.from (by exact((Jj _ _).alloc (Ji _) _).alloc (by simp) _)));obtain⟨bJ,ae⟩:=d.2.2;have bL:=ab ae;have bN:W.heap.size<=t.heap.size:=a.2.1.size;have bS:t.cell? ⟨b,1,none⟩=some (.iface V X):=(E _ a.2.1).1 1;have bX:t.cell? ⟨b,3,none⟩=some (.iface Y Z):=(E _ a.2.1).1 3;have b0:b<t.heap.size:=(E _ a.2.1).2;have b1:b<t.heap.size+1:=(by omega);have b2:b≠t.heap.size:=(by omega);have b3:b≠t.heap.size+1:=(by omega);have b4:t.heap.size≠b:=(by omega);have b5:t.heap.size+1≠b:=(by omega);clear d A ae)
   |(go_at_call 247;refine(aj _ m J (o.alloc (.cells #[.nilFunc] 426)) N O P ar D s S Q (by exact a0) (by exact ad.alloc _) aI).mono ?_;rintro e t ⟨h,i,rfl,l,d,A⟩;have a9:=ab A;(try(have y:=ab (Bx.call d (L.alloc _));have bv:=(blk y.at').1 0;have bx:=(blk y.at').2 0;have bz:=aa y.at';clear aN aR));(try(have z:=ab (Bx.call d (ao.alloc _));have bA:=(blk z.at').1 0;have bF:=(blk z.at').2 0;have bG:=aa z.at';clear a3 a4));have B:=ab (Bx.call d (Bx.new ad (lo:=W.heap.size) aT (b:=o.heap.size) rfl));have cg:=(blk B.at').1 0;have ch:=(blk B.at').2 0;have ci:=aa B.at';have M:=ab d.1.le;have a:=ab (C.trans (d.from (by exact(Jj _ _).alloc (Ji _) _)));obtain⟨bJ,ae⟩:=d.2.2;have bL:=ab ae;have bN:W.heap.size<=t.heap.size:=a.2.1.size;have bS:t.cell? ⟨b,1,none⟩=some (.iface V X):=(E _ a.2.1).1 1;have bX:t.cell? ⟨b,3,none⟩=some (.iface Y Z):=(E _ a.2.1).1 3;have b0:b<t.heap.size:=(E _ a.2.1).2;have b1:b<t.heap.size+1:=(by omega);have b2:b≠t.heap.size:=(by omega);have b3:b≠t.heap.size+1:=(by omega);have b4:t.heap.size≠b:=(by omega);have b5:t.heap.size+1≠b:=(by omega);clear d A ae)
   |(go_at_call 247;refine(aj _ m J o N O P ar D s S Q (by exact a0) (by exact ad) aI).mono ?_;rintro e t ⟨h,i,rfl,l,d,A⟩;have a9:=ab A;(try(have y:=ab (Bx.call d L);have bv:=(blk y.at').1 0;have bx:=(blk y.at').2 0;have bz:=aa y.at';clear aN aR));(try(have z:=ab (Bx.call d ao);have bA:=(blk z.at').1 0;have bF:=(blk z.at').2 0;have bG:=aa z.at';clear a3 a4));have M:=ab d.1.le;have a:=ab (C.trans (d.from (by exact Jj _ _)));obtain⟨bJ,ae⟩:=d.2.2;have bL:=ab ae;have bN:W.heap.size<=t.heap.size:=a.2.1.size;have bS:t.cell? ⟨b,1,none⟩=some (.iface V X):=(E _ a.2.1).1 1;have bX:t.cell? ⟨b,3,none⟩=some (.iface Y Z):=(E _ a.2.1).1 3;have b0:b<t.heap.size:=(E _ a.2.1).2;have b1:b<t.heap.size+1:=(by omega);have b2:b≠t.heap.size:=(by omega);have b3:b≠t.heap.size+1:=(by omega);have b4:t.heap.size≠b:=(by omega);have b5:t.heap.size+1≠b:=(by omega);clear d A ae))
  all_goals
   go_wp2_with fail;go_meet
   case rel=>
    have q:Hid (Q=none->eQ c.w0 (l.off c.X) D g f (dm (a6 c.T s) k)/\eQ c.w0 (l.off c.X) D h i (dm (a6 c.T s) m)):=fun I=>by have au:=dZ (aI.symm.trans I);exact⟨(K au.1).mono (Fx.off_mono M c.X),(U a9) I⟩
    first
     |exact⟨_,_,g,h,f,i,l.off c.X,_,rfl,rfl,CU a rfl rfl q⟩
     |exact⟨_,_,g,h,f,i,l.off c.X,_,rfl,rfl,CV a rfl rfl q⟩
     |exact⟨_,_,g,h,f,i,l.off c.X,_,rfl,rfl,lM j a y rfl q⟩
     |exact⟨_,_,g,h,f,i,l.off c.X,_,rfl,rfl,fin_no j a y rfl q⟩
     |exact⟨_,_,g,h,f,i,l.off c.X,_,rfl,rfl,fin_om j a y rfl q⟩
     |exact⟨_,_,g,h,f,i,l.off c.X,_,rfl,rfl,lN j a y rfl q⟩
     |exact⟨_,_,g,h,f,i,l.off c.X,_,rfl,rfl,lM j a z rfl q⟩
     |exact⟨_,_,g,h,f,i,l.off c.X,_,rfl,rfl,fin_no j a z rfl q⟩
     |exact⟨_,_,g,h,f,i,l.off c.X,_,rfl,rfl,fin_om j a z rfl q⟩
     |exact⟨_,_,g,h,f,i,l.off c.X,_,rfl,rfl,lN j a z rfl q⟩
     |exact⟨_,_,g,h,f,i,l.off c.X,_,rfl,rfl,lM j a B rfl q⟩
     |exact⟨_,_,g,h,f,i,l.off c.X,_,rfl,rfl,fin_no j a B rfl q⟩
     |exact⟨_,_,g,h,f,i,l.off c.X,_,rfl,rfl,fin_om j a B rfl q⟩
     |exact⟨_,_,g,h,f,i,l.off c.X,_,rfl,rfl,lN j a B rfl q⟩
     |exact⟨_,_,g,h,f,i,l.off c.X,_,rfl,rfl,lM j a G rfl q⟩
     |exact⟨_,_,g,h,f,i,l.off c.X,_,rfl,rfl,fin_no j a G rfl q⟩
     |exact⟨_,_,g,h,f,i,l.off c.X,_,rfl,rfl,fin_om j a G rfl q⟩
     |exact⟨_,_,g,h,f,i,l.off c.X,_,rfl,rfl,lN j a G rfl q⟩
     |exact⟨_,_,g,h,f,i,l.off c.X,_,rfl,rfl,FA.write2 j a y z (by omega) _ _ q⟩
     |exact⟨_,_,g,h,f,i,l.off c.X,_,rfl,rfl,FA.write2 j a y B (by omega) _ _ q⟩
     |exact⟨_,_,g,h,f,i,l.off c.X,_,rfl,rfl,FA.write2 j a y G (by omega) _ _ q⟩
     |exact⟨_,_,g,h,f,i,l.off c.X,_,rfl,rfl,FA.write2 j a z y (by omega) _ _ q⟩
     |exact⟨_,_,g,h,f,i,l.off c.X,_,rfl,rfl,FA.write2 j a z B (by omega) _ _ q⟩
     |exact⟨_,_,g,h,f,i,l.off c.X,_,rfl,rfl,FA.write2 j a z G (by omega) _ _ q⟩
     |exact⟨_,_,g,h,f,i,l.off c.X,_,rfl,rfl,FA.write2 j a B y (by omega) _ _ q⟩
     |exact⟨_,_,g,h,f,i,l.off c.X,_,rfl,rfl,FA.write2 j a B z (by omega) _ _ q⟩
     |exact⟨_,_,g,h,f,i,l.off c.X,_,rfl,rfl,FA.write2 j a B G (by omega) _ _ q⟩
     |exact⟨_,_,g,h,f,i,l.off c.X,_,rfl,rfl,FA.write2 j a G y (by omega) _ _ q⟩
     |exact⟨_,_,g,h,f,i,l.off c.X,_,rfl,rfl,FA.write2 j a G z (by omega) _ _ q⟩
     |exact⟨_,_,g,h,f,i,l.off c.X,_,rfl,rfl,FA.write2 j a G B (by omega) _ _ q⟩
 case rest=>
  obtain⟨a1,a2,g,h,f,i,J,H,rfl,rfl,d,b6,b7,b9,A⟩:=hcut;obtain⟨C,a',ba,M,K⟩:=dD d b6 b7 b9 A;obtain⟨R,a5⟩:=(U E) _ d.2.1;clear d b6 b7 b9 A an aJ aL
  cases au:(T.toList== [43])with
  |true=>
   go_wp2;go_ret;refine⟨_,_,rfl,H,C,fun I=>?_⟩;have e:(fun r=>iK T (dm (a6 c.T s) k r) (dm (a6 c.T s) m r))=fun r=>wrap64 (dm (a6 c.T s) k r+dm (a6 c.T s) m r):=by funext r;unfold iK;rw[Jo au]
   rw[e];exact Hx _ _ _ _ _ _ _ _ _ _ _ _ a' ba ((K I).1.mono M) ((K I).2.mono M)
  |false=>
   cases b':(T.toList== [45])with
   |true=>
    go_wp2;go_ret;refine⟨_,_,rfl,H,C,fun I=>?_⟩;have e:(fun r=>iK T (dm (a6 c.T s) k r) (dm (a6 c.T s) m r))=fun r=>wrap64 (dm (a6 c.T s) k r-dm (a6 c.T s) m r):=by funext r;unfold iK;rw[Jn (by rw[au];decide),Jo b']
    rw[e];exact Hy _ _ _ _ _ _ _ _ _ _ _ _ a' ba ((K I).1.mono M) ((K I).2.mono M)
   |false=>
    go_wp2;go_ret;refine⟨_,_,rfl,H,C,fun I=>?_⟩;have e:(fun r=>iK T (dm (a6 c.T s) k r) (dm (a6 c.T s) m r))=fun r=>wrap64 (dm (a6 c.T s) k r*dm (a6 c.T s) m r):=by funext r;unfold iK;rw[Jn (by rw[au];decide),Jn (by rw[b'];decide)]
    rw[e];exact Hz _ _ _ _ _ _ _ _ _ _ _ _ a' ba ((K I).1.mono M) ((K I).2.mono M)
theorem bC.isI{w:World}{P:Nat->Prop}: ∀(n:Nat) (v:Value) (l:List Nd),bC w P n v l-> ∃u x,v=.iface u x
 |0,_,_,a=>a.elim
 |n+1,v,l,a=>by rcases a with⟨b,t,h1,_⟩|⟨b,p,x,k,h1,_⟩|⟨b,t,u,h1,_⟩|⟨b,p,x,k,h1,_⟩|⟨b,p,x,sg,y,k,m,h1,_⟩<;>exact⟨_,_,h1⟩
theorem Bq(c:Fc)(n:Nat)(E:Hid (jR c n))(F:Fx)(W:World)(h i j t:Value)(d:Nat)(a:List Sr)(er l f:Option (Nat×Nat))(u:FS c F W h i j t d a er)(b:Nat)(p:Int)(o:ByteArray)(x q:Value)(k m:List Nd)(v:c.w0.heap[b]? =some (.cells #[.int .i64 p,x,.string o,q] 263 (0,0)))(w:bC c.w0 (fun _=>True) n x k)(y:bC c.w0 (fun _=>True) n q m)(G:Hid (l=bQ er (cw c.T a k)))(H:Hid (f=bQ l (cw c.T a m))):
  Calls prog 247 #[.pointer (some ⟨c.fb,0,none⟩),.iface 265 (.pointer (some ⟨b,0,none⟩))] W fun e W'=> ∃g s,e=.returned (.func (.func g) #[] s)/\ ∃z,FA c F W h i j d a f W' z/\(f=none->eQ c.w0 (z.off c.X) d g s (fun r=>iK o (dm (a6 c.T a) k r) (dm (a6 c.T a) m r))):=by
 obtain⟨I,J,A,B⟩:=aP u v w y;have M:=un;have N:=wo;have O:=uo;have P:=sF;have Q:=ED;clear u v w y;go_enter func247,ntmps247;go_wp2_with fail;refine(CW c n E F _ h i j t d a er l f (by exact I) b p o x q k m J A B (bC.isI _ _ _ A) (bC.isI _ _ _ B) G H).mono ?_;rintro e R ⟨g,s,rfl,S,C,D⟩;obtain⟨K,L⟩:=ag C D;clear C D;go_wp2;go_ret;exact⟨_,_,rfl,_,K,L⟩
theorem pd(c:Fc): ∀n,jR c n
 |0=>fun _ _ _ _ _ _ _ _ _ _ _ _ d _ _=>d.elim
 |n+1=>fun v l F W g h i j o a er e d q r=>by
  have s:Hid (jR c n):=pd c n;rcases d with⟨b,t,rfl,_,hb,rfl⟩|⟨b,p,x,k,rfl,_,hb,hx,rfl⟩|⟨b,t,u,rfl,_,hb,rfl⟩|⟨b,p,x,k,rfl,_,hb,hx,rfl⟩|⟨b,p,x,sg,y,k,m,rfl,_,hb,hx,hy,rfl⟩
  ·refine(CS c F W g h i j o a er q b t hb).mono ?_;rintro D E ⟨w,z,rfl,A,B,C⟩;have f:e=er:=r.trans (lj er);rw[(sX (a6 c.T a) t).2,f];exact⟨w,z,rfl,A,B,fun _=>C⟩
  ·have f:e=bQ er (cw c.T a k):=by rw[U r,dc];rfl
   refine(zK c n s F W g h i j o a er e q b p x k hb hx (Or.inr (bC.isI _ _ _ hx)) f).mono ?_;rw[(o8 (bC.wfv (a6 c.T a) _ _ _ hx) p).2];exact fun _ _ d=>d
  ·have f:e=bQ er (eA c.T a (dl t u)):=by rw[U r,dc];exact JE _ (lj _)
   refine(CT c F W g h i j o a er e q b _ t u hb f _ rfl).mono ?_;rw[(sY (a6 c.T a) t u).2];exact fun _ _ d=>d
  ·have f:e=bQ er (cw c.T a k):=by rw[U r,dc];rfl
   refine(EV c n s F W g h i j o a er e q b p x k hb hx (Or.inr (bC.isI _ _ _ hx)) f).mono ?_;rw[(wK (bC.wfv (a6 c.T a) _ _ _ hx) p).2];exact fun _ _ d=>d
  ·have f:e=bQ (bQ er (cw c.T a k)) (cw c.T a m):=by rw[U r,dc,mX,pZ];rfl
   refine(Bq c n s F W g h i j o a er _ e q b p sg x y k m hb hx hy rfl f).mono ?_;rw[(qI (bC.wfv (a6 c.T a) _ _ _ hx) (bC.wfv (a6 c.T a) _ _ _ hy) p sg).2];exact fun _ _ d=>d
abbrev Er:=Option (Nat×Nat)
structure Fs where
 ss:List Sr
 wd:Nat
 er:Er
def bW(T:List Tb)(f:Fs)(x:Tk×Tk):Fs:=match dz T x.1.text with
 |none=> {f with er:=bQ f.er (some (x.1.place,dY))}
 |some a=>⟨f.ss++[⟨x.2.text,a,f.wd⟩],f.wd+(T.getD a bd).cols.length,bQ f.er (if(ck f.ss x.2.text).isSome then some (x.2.place,iJ)else none)⟩
def gd(T:List Tb)(a:List Sr)(x:cn):Er:=bQ (cw T a x.l) (cw T a x.r)
def eY(c:ByteArray)(a b:Int):Bool:=
 if c.toList== [61]then a==b else if c.toList== [60,62]then a !=b else if c.toList== [60]then decide (a<b)else if c.toList== [60,61]then decide (a<=b)else if c.toList== [62]then decide (b<a)else decide (b<=a)
def iX(a:ByteArray->ByteArray->Int)(x:cn)(r:List Int):Bool:=eY x.sg (dm a x.l r) (dm a x.r r)
def cU(rs:List (List (List Int))):Nat:=(rs.map List.length).foldl (· * ·) 1
def gj:List (List (List Int))->Nat->List Int
 | [],_=>[]
 |l::a,n=>(l.getD (n/cU a%l.length) [])++gj a n
def aK(T:List Tb)(a:List Sr):List (List (List Int)):=a.map fun b=>(T.getD b.tab bd).rows
def kH(n:Nat)(cs:List (List Int)):List (List Int):=(List.range n).map fun a=>cs.map fun b=>b.getD a 0
def jg(a:ByteArray):Nat:=
 if a.toList== [61]then 291 else if a.toList== [60,62]then 292 else if a.toList== [60]then 293 else if a.toList== [60,61]then 294 else if a.toList== [62]then 295 else 296
theorem uC(a:ByteArray)(w:World):Calls prog 249 #[.string a] w fun e w'=>e=.returned (.func (.func (jg a)) #[] #[])/\w'=w:=by
 cases b:(a.toList== [61])with
 |true=>
  have e:jg a=291:=by unfold jg;rw[Jo b]
  rw[e];clear e;go_enter func249,ntmps249;go_wp2;go_ret;exact⟨rfl,rfl⟩
 |false=>
 cases c:(a.toList== [60,62])with
 |true=>
  have e:jg a=292:=by unfold jg;rw[Jn (by rw[b];decide),Jo c]
  rw[e];clear e;go_enter func249,ntmps249;go_wp2;go_ret;exact⟨rfl,rfl⟩
 |false=>
 cases d:(a.toList== [60])with
 |true=>
  have e:jg a=293:=by unfold jg;rw[Jn (by rw[b];decide),Jn (by rw[c];decide),Jo d]
  rw[e];clear e;go_enter func249,ntmps249;go_wp2;go_ret;exact⟨rfl,rfl⟩
 |false=>
 cases f:(a.toList== [60,61])with
 |true=>
  have e:jg a=294:=by unfold jg;rw[Jn (by rw[b];decide),Jn (by rw[c];decide),Jn (by rw[d];decide),Jo f]
  rw[e];clear e;go_enter func249,ntmps249;go_wp2;go_ret;exact⟨rfl,rfl⟩
 |false=>
 cases g:(a.toList== [62])with
 |true=>
  have e:jg a=295:=by unfold jg;rw[Jn (by rw[b];decide),Jn (by rw[c];decide),Jn (by rw[d];decide),Jn (by rw[f];decide),Jo g]
  rw[e];clear e;go_enter func249,ntmps249;go_wp2;go_ret;exact⟨rfl,rfl⟩
 |false=>
  have e:jg a=296:=by unfold jg;rw[Jn (by rw[b];decide),Jn (by rw[c];decide),Jn (by rw[d];decide),Jn (by rw[f];decide),Jn (by rw[g];decide)]
  rw[e];clear e;go_enter func249,ntmps249;go_wp2;go_ret;exact⟨rfl,rfl⟩
def vd(g:Nat)(p:Int->Int->Bool):Prop:=sZ g/\ ∀(a b:Int) (c:World),Calls prog g #[.int .i64 a,.int .i64 b] c fun d e=>d=.returned (.bool (p a b))/\e=c
theorem I7:vd 291 (fun a b=>a==b):=⟨enters_of func291 (by kernel_rfl) rfl,fun a b c=>by go_enter func291,ntmps291;go_wp2;go_ret;exact⟨rfl,rfl⟩⟩
theorem I8:vd 292 (fun a b=>a !=b):=⟨enters_of func292 (by kernel_rfl) rfl,fun a b c=>by go_enter func292,ntmps292;go_wp2;go_ret;exact⟨rfl,rfl⟩⟩
theorem I9:vd 293 (fun a b=>decide (a<b)):=⟨enters_of func293 (by kernel_rfl) rfl,fun a b c=>by go_enter func293,ntmps293;go_wp2;go_ret;exact⟨rfl,rfl⟩⟩
theorem Ja:vd 294 (fun a b=>decide (a<=b)):=⟨enters_of func294 (by kernel_rfl) rfl,fun a b c=>by go_enter func294,ntmps294;go_wp2;go_ret;exact⟨rfl,rfl⟩⟩
theorem Jb:vd 295 (fun a b=>decide (b<a)):=⟨enters_of func295 (by kernel_rfl) rfl,fun a b c=>by go_enter func295,ntmps295;go_wp2;go_ret;exact⟨rfl,rfl⟩⟩
theorem Jc:vd 296 (fun a b=>decide (b<=a)):=⟨enters_of func296 (by kernel_rfl) rfl,fun a b c=>by go_enter func296,ntmps296;go_wp2;go_ret;exact⟨rfl,rfl⟩⟩
theorem H1(d:ByteArray):vd (jg d) (eY d):=by
 unfold jg;split
 ·rename_i e
  have c:eY d=fun a b=>a==b:=by funext a b;unfold eY;rw[Jo e]
  rw[c];exact I7
 ·rename_i e
  split
  ·rename_i f
   have c:eY d=fun a b=>a !=b:=by funext a b;unfold eY;rw[Jn e,Jo f]
   rw[c];exact I8
  ·rename_i f
   split
   ·rename_i g
    have c:eY d=fun a b=>decide (a<b):=by funext a b;unfold eY;rw[Jn e,Jn f,Jo g]
    rw[c];exact I9
   ·rename_i g
    split
    ·rename_i h
     have c:eY d=fun a b=>decide (a<=b):=by funext a b;unfold eY;rw[Jn e,Jn f,Jn g,Jo h]
     rw[c];exact Ja
    ·rename_i h
     split
     ·rename_i i
      have c:eY d=fun a b=>decide (b<a):=by funext a b;unfold eY;rw[Jn e,Jn f,Jn g,Jn h,Jo i]
      rw[c];exact Jb
     ·rename_i i
      have c:eY d=fun a b=>decide (b<=a):=by funext a b;unfold eY;rw[Jn e,Jn f,Jn g,Jn h,Jn i]
      rw[c];exact Jc
def ve(d:World)(F:Fx)(n g:Nat)(e:Array Value)(p:List Int->Bool):Prop:=sZ g/\ ∀(a:World) (c:Value) (b:List Int),gh d F a->b.length=n->aS a c (aE b)->Calls prog g (#[c]++e) a fun f h=>f=.returned (.bool (p b))/\Below a.heap.size a h
theorem ve.mono{a:World}{F b:Fx}{n g:Nat}{c:Array Value}{p:List Int->Bool}(d:ve a F n g c p)(e:F.le b):ve a b n g c p:=⟨d.1,fun f h i j=>d.2 f h i (j.mono e)⟩
theorem IC(l:World)(F:Fx)(n bx d e g h i:Nat)(j k:Array Value)(f m:List Int->Int)(p:Int->Int->Bool)(T L:TypeId)(o:F bx=some (.cells #[.func (.func g) #[] j] T (0,0)))(q:F d=some (.cells #[.func (.func h) #[] k] T (0,0)))(s:F e=some (.cells #[.func (.func i) #[] #[]] L (0,0)))(t:eQ l F n g j f)(u:eQ l F n h k m)(v:vd i p):
  ve l F n 250 #[.pointer (some ⟨e,0,none⟩),.pointer (some ⟨bx,0,none⟩),.pointer (some ⟨d,0,none⟩)] (fun r=>p (f r) (m r)):=by
 refine⟨enters_of func250 (by kernel_rfl) rfl,fun c ac E a w x=>?_⟩;obtain⟨G,M⟩:=blk (a.new _ _ o);obtain⟨H,N⟩:=blk (a.new _ _ q);obtain⟨I,O⟩:=blk (a.new _ _ s);have P:=aa (a.new _ _ o);have Q:=aa (a.new _ _ q);have R:=aa (a.new _ _ s);have ad:=t.1;have ae:=u.1;have aj:=v.1;obtain⟨y,z⟩:=ag (fun W1 b=>lL t a (W1:=W1) b w x) (fun W1 b=>lL u a (W1:=W1) b w x);have S:=ab v.2
 have A:Hid (∀W1,Below c.heap.size c W1->W1.cell? ⟨e,0,none⟩=some (.func (.func i) #[] #[])/\W1.cell? ⟨bx,0,none⟩=some (.func (.func g) #[] j)/\W1.cell? ⟨d,0,none⟩=some (.func (.func h) #[] k)):=fun W1 b=>⟨by rw[b.cell (p:=⟨e,0,none⟩) R,I];rfl,by rw[b.cell (p:=⟨bx,0,none⟩) P,G];rfl,by rw[b.cell (p:=⟨d,0,none⟩) Q,H];rfl⟩
 obtain⟨ak,al,an⟩:=(U A) c (Jj _ _);obtain⟨ao,ap,rfl,_,_⟩:=x;clear o q s t u a w v G H I M N O;rw[Jm]at y z⊢
 show Calls prog 250 #[_,_,_,_] c _
 go_enter func250,ntmps250
 go_upto_region 1 with(fail)
 go_cut [5] (fun V W1=>V=.bool (p (f E) (m E))/\Below c.heap.size c W1)
 case first=>
  go_region_held3 (fun B=>B.cell? ⟨e,0,none⟩=some (.func (.func i) #[] #[])/\B.cell? ⟨bx,0,none⟩=some (.func (.func g) #[] j)/\B.cell? ⟨d,0,none⟩=some (.func (.func h) #[] k)) (go_keep) (first
   |(refine(y _ (by exact(Jj _ _).drew)).mono ?_;clear y;rintro J ar ⟨rfl,C⟩;have W:=ab C;obtain⟨au,av,ax⟩:=(U A) _ C;clear C)
   |(refine((U z) _ (by exact W)).mono ?_;clear z;rintro J ay ⟨rfl,D⟩;have X:=ab D;obtain⟨aA,aI,aJ⟩:=(U A) _ D;clear D)
   |(refine(S _ _ _).mono ?_;rintro J aL ⟨rfl,Y⟩;obtain rfl:=Y.symm))
  all_goals
   go_wp2_with fail;go_meet
   case rel=>exact⟨rfl,X⟩
 case rest=>obtain⟨rfl,K⟩:=hcut;have Z:=ab K;clear K;go_wp2;go_ret;exact⟨rfl,Z⟩
theorem CX(c:Fc)(n:Nat)(F:Fx)(J:World)(N O P ao:Value)(C:Nat)(A:List Sr)(er V S:Option (Nat×Nat))(a4:FS c F J N O P ao C A er)(p:Int)(M:ByteArray)(x a5:Value)(k m:List Nd)(aL:bC c.w0 (fun _=>True) n x k)(aN:bC c.w0 (fun _=>True) n a5 m)(aR:Hid (V=bQ er (cw c.T A k)))(au:Hid (S=bQ V (cw c.T A m))):
  Calls prog 198 #[.pointer (some ⟨c.fb,0,none⟩),.agg #[.int .i64 p,x,.string M,a5]] J fun e W'=> ∃g f,e=.returned (.func (.func g) #[] f)/\ ∃W,FA c F J N O P C A S W' W/\(S=none->ve c.w0 (W.off c.X) C g f (fun r=>eY M (dm (a6 c.T A) k r) (dm (a6 c.T A) m r))):=by
 have ac:Hid (jR c n):=pd c n;obtain⟨a9,ad,aT⟩:=aC a4 aL aN;have cq:=mj;have cr: ∀(a':Fn) (first ba:Array Value) (w:World),(Instr.makeFunc a' first ba).run prog w=.ok (.func a' first ba) w:=fun _ _ _ _=>rfl;obtain⟨D,E,rfl⟩:=bC.isI _ _ _ aL;obtain⟨G,H,rfl⟩:=bC.isI _ _ _ aN;clear a4 aL aN;go_enter func198,ntmps198
 go_upto_region 1 with(fail)
 have b7:Hid (Below J.heap.size J (J.alloc (.cells #[.int .i64 p,.iface D E,.string M,.iface G H] 263))):=(Jj _ _).alloc (Ji _) _;have j:Hid (FS c F (J.alloc (.cells #[.int .i64 p,.iface D E,.string M,.iface G H] 263)) N O P ao C A er):=a9.alloc _;have bb:Hid ((J.alloc (.cells #[.int .i64 p,.iface D E,.string M,.iface G H] 263)).heap[J.heap.size]? =some (.cells #[.int .i64 p,.iface D E,.string M,.iface G H] 263 (0,0))):=af rfl;have b9:J.heap.size≠c.fb:=by have:=a9.grow.ltp;omega
 generalize J.alloc (.cells #[.int .i64 p,.iface D E,.string M,.iface G H] 263)=s at*;generalize bc:J.heap.size=b at*;have b':=ab bc;clear bc;have be:=aa bb
 have I:Hid (∀ae,Kp c.fb s ae->(∀o,ae.cell? ⟨b,o,none⟩= #[.int .i64 p,.iface D E,.string M,.iface G H][o]?)/\b<ae.heap.size):=fun ae bg=>⟨fun o=>by rw[bg.cell (p:=⟨b,o,none⟩) be b9];exact(blk bb).1 o,Js be bg.size⟩
 obtain⟨aj,cs⟩:=(U I) _ (Kp.refl _ _);have ct:b<s.heap.size+1:=by omega
 have cu:b≠s.heap.size:=by omega
 have cv:b≠s.heap.size+1:=by omega
 have cz:s.heap.size≠b:=by omega
 have cF:s.heap.size+1≠b:=by omega
 have av:s.cell? ⟨b,1,none⟩=some (.iface D E):=aj 1;have ax:s.cell? ⟨b,3,none⟩=some (.iface G H):=aj 3
 go_cut [5,6] (fun ca cb ae=> ∃aU aV g h f i Q W,ca=.pointer (some ⟨aU,0,none⟩)/\cb=.pointer (some ⟨aV,0,none⟩)/\FA c F s N O P C A S ae W/\W.off c.X aU=some (.cells #[.func (.func g) #[] f] 426 (0,0))/\W.off c.X aV=some (.cells #[.func (.func h) #[] i] 426 (0,0))/\Q.le (W.off c.X)/\(S=none->eQ c.w0 Q C g f (dm (a6 c.T A) k)/\eQ c.w0 Q C h i (dm (a6 c.T A) m)))
 case first=>
  go_region_held3 (fun bk=>bk.cell? ⟨b,1,none⟩=some (.iface D E)/\bk.cell? ⟨b,3,none⟩=some (.iface G H)) (go_keep) (first
   |(go_at_call 247;refine(ac _ k F ((s.drew.alloc (.cells #[.nilFunc] 426)).alloc (.cells #[.nilFunc] 426)) N O P ao C A er V (by exact ad) (by exact(j.drew.alloc _).alloc _) aR).mono ?_;clear ad;rintro e q ⟨g,f,rfl,Q,d,z⟩;have ak:=ab z;have R:=ab (Bx.call d ((Bx.new j.drew (lo:=s.heap.size) (Ji _) (b:=s.heap.size) rfl).alloc _));have ay:=(blk R.at').1 0;have aA:=(blk R.at').2 0;have cc:=aa R.at';have al:=ab (Bx.call d (Bx.new (j.drew.alloc _) (lo:=s.heap.size) (by simp) (b:=s.heap.size+1) (by simp)));have a0:=(blk al.at').1 0;have a1:=(blk al.at').2 0;have cI:=aa al.at';have K:=ab (d.from (w:=s) (by exact((Jj _ _).drew.alloc (by simp) _).alloc (by simp) _));obtain⟨T,a2⟩:=(U I) _ K.2.1;have bl:b<q.heap.size+1:=(by omega);have bn:b≠q.heap.size:=(by omega);have bq:b≠q.heap.size+1:=(by omega);have br:q.heap.size≠b:=(by omega);have bs:q.heap.size+1≠b:=(by omega);have av:q.cell? ⟨b,1,none⟩=some (.iface D E):=T 1;have ax:q.cell? ⟨b,3,none⟩=some (.iface G H):=T 3;obtain⟨ap,X⟩:=d.2.2;have Y:=ab X;have aI:s.heap.size<=q.heap.size:=K.2.1.size;clear d z aj X)
   |(go_at_call 247;refine(ac _ k F (s.drew.alloc (.cells #[.nilFunc] 426)) N O P ao C A er V (by exact ad) (by exact j.drew.alloc _) aR).mono ?_;clear ad;rintro e q ⟨g,f,rfl,Q,d,z⟩;have ak:=ab z;have R:=ab (Bx.call d (Bx.new j.drew (lo:=s.heap.size) (Ji _) (b:=s.heap.size) rfl));have ay:=(blk R.at').1 0;have aA:=(blk R.at').2 0;have cc:=aa R.at';have K:=ab (d.from (w:=s) (by exact(Jj _ _).drew.alloc (by simp) _));obtain⟨T,a2⟩:=(U I) _ K.2.1;have bl:b<q.heap.size+1:=(by omega);have bn:b≠q.heap.size:=(by omega);have bq:b≠q.heap.size+1:=(by omega);have br:q.heap.size≠b:=(by omega);have bs:q.heap.size+1≠b:=(by omega);have av:q.cell? ⟨b,1,none⟩=some (.iface D E):=T 1;have ax:q.cell? ⟨b,3,none⟩=some (.iface G H):=T 3;obtain⟨ap,X⟩:=d.2.2;have Y:=ab X;have aI:s.heap.size<=q.heap.size:=K.2.1.size;clear d z aj X)
   |(go_at_call 247;refine(ac _ k F s.drew N O P ao C A er V (by exact ad) (by exact j.drew) aR).mono ?_;clear ad;rintro e q ⟨g,f,rfl,Q,d,z⟩;have ak:=ab z;have K:=ab (d.from (w:=s) (by exact(Jj _ _).drew));obtain⟨T,a2⟩:=(U I) _ K.2.1;have bl:b<q.heap.size+1:=(by omega);have bn:b≠q.heap.size:=(by omega);have bq:b≠q.heap.size+1:=(by omega);have br:q.heap.size≠b:=(by omega);have bs:q.heap.size+1≠b:=(by omega);have av:q.cell? ⟨b,1,none⟩=some (.iface D E):=T 1;have ax:q.cell? ⟨b,3,none⟩=some (.iface G H):=T 3;obtain⟨ap,X⟩:=d.2.2;have Y:=ab X;have aI:s.heap.size<=q.heap.size:=K.2.1.size;clear d z aj X)
   |(go_at_call 247;refine(ac _ m Q ((q.alloc (.cells #[.nilFunc] 426)).alloc (.cells #[.nilFunc] 426)) N O P ap C A V S (by exact aT) (by exact(Y.alloc _).alloc _) au).mono ?_;rintro e u ⟨h,i,rfl,l,d,z⟩;have a3:=ab z;(try(have v:=ab (Bx.call d ((R.alloc _).alloc _));have bt:=(blk v.at').1 0;have bu:=(blk v.at').2 0;have bv:=aa v.at';clear ay aA));(try(have y:=ab (Bx.call d ((al.alloc _).alloc _));have bx:=(blk y.at').1 0;have bz:=(blk y.at').2 0;have bA:=aa y.at';clear a0 a1));have B:=ab (Bx.call d ((Bx.new Y (lo:=s.heap.size) aI (b:=q.heap.size) rfl).alloc _));have cd:=(blk B.at').1 0;have ce:=(blk B.at').2 0;have cf:=aa B.at';have L:=ab (Bx.call d (Bx.new (Y.alloc _) (lo:=s.heap.size) (by simp;omega) (b:=q.heap.size+1) (by simp)));have cL:=(blk L.at').1 0;have cN:=(blk L.at').2 0;have cR:=aa L.at';have an:=ab d.1.le;have a:=ab (K.trans (d.from (by exact((Jj _ _).alloc (Ji _) _).alloc (by simp) _)));obtain⟨bF,Z⟩:=d.2.2;have bG:=ab Z;have bJ:s.heap.size<=u.heap.size:=a.2.1.size;have bL:u.cell? ⟨b,1,none⟩=some (.iface D E):=(I _ a.2.1).1 1;have bN:u.cell? ⟨b,3,none⟩=some (.iface G H):=(I _ a.2.1).1 3;have bS:b<u.heap.size:=(I _ a.2.1).2;have bX:b<u.heap.size+1:=(by omega);have b0:b≠u.heap.size:=(by omega);have b1:b≠u.heap.size+1:=(by omega);have b2:u.heap.size≠b:=(by omega);have b3:u.heap.size+1≠b:=(by omega);clear d z Z)
   |(go_at_call 247;refine(ac _ m Q (q.alloc (.cells #[.nilFunc] 426)) N O P ap C A V S (by exact aT) (by exact Y.alloc _) au).mono ?_;rintro e u ⟨h,i,rfl,l,d,z⟩;have a3:=ab z;(try(have v:=ab (Bx.call d (R.alloc _));have bt:=(blk v.at').1 0;have bu:=(blk v.at').2 0;have bv:=aa v.at';clear ay aA));(try(have y:=ab (Bx.call d (al.alloc _));have bx:=(blk y.at').1 0;have bz:=(blk y.at').2 0;have bA:=aa y.at';clear a0 a1));have B:=ab (Bx.call d (Bx.new Y (lo:=s.heap.size) aI (b:=q.heap.size) rfl));have cd:=(blk B.at').1 0;have ce:=(blk B.at').2 0;have cf:=aa B.at';have an:=ab d.1.le;have a:=ab (K.trans (d.from (by exact(Jj _ _).alloc (Ji _) _)));obtain⟨bF,Z⟩:=d.2.2;have bG:=ab Z;have bJ:s.heap.size<=u.heap.size:=a.2.1.size;have bL:u.cell? ⟨b,1,none⟩=some (.iface D E):=(I _ a.2.1).1 1;have bN:u.cell? ⟨b,3,none⟩=some (.iface G H):=(I _ a.2.1).1 3;have bS:b<u.heap.size:=(I _ a.2.1).2;have bX:b<u.heap.size+1:=(by omega);have b0:b≠u.heap.size:=(by omega);have b1:b≠u.heap.size+1:=(by omega);have b2:u.heap.size≠b:=(by omega);have b3:u.heap.size+1≠b:=(by omega);clear d z Z)
   |(go_at_call 247;refine(ac _ m Q q N O P ap C A V S (by exact aT) (by exact Y) au).mono ?_;rintro e u ⟨h,i,rfl,l,d,z⟩;have a3:=ab z;(try(have v:=ab (Bx.call d R);have bt:=(blk v.at').1 0;have bu:=(blk v.at').2 0;have bv:=aa v.at';clear ay aA));(try(have y:=ab (Bx.call d al);have bx:=(blk y.at').1 0;have bz:=(blk y.at').2 0;have bA:=aa y.at';clear a0 a1));have an:=ab d.1.le;have a:=ab (K.trans (d.from (by exact Jj _ _)));obtain⟨bF,Z⟩:=d.2.2;have bG:=ab Z;have bJ:s.heap.size<=u.heap.size:=a.2.1.size;have bL:u.cell? ⟨b,1,none⟩=some (.iface D E):=(I _ a.2.1).1 1;have bN:u.cell? ⟨b,3,none⟩=some (.iface G H):=(I _ a.2.1).1 3;have bS:b<u.heap.size:=(I _ a.2.1).2;have bX:b<u.heap.size+1:=(by omega);have b0:b≠u.heap.size:=(by omega);have b1:b≠u.heap.size+1:=(by omega);have b2:u.heap.size≠b:=(by omega);have b3:u.heap.size+1≠b:=(by omega);clear d z Z))
  all_goals
   go_wp2_with fail;go_meet
   case rel=>
    have t:Hid (S=none->eQ c.w0 (l.off c.X) C g f (dm (a6 c.T A) k)/\eQ c.w0 (l.off c.X) C h i (dm (a6 c.T A) m)):=fun ar=>by have cg:=dZ (au.symm.trans ar);exact⟨(ak cg.1).mono (Fx.off_mono an c.X),(U a3) ar⟩
    first
     |exact⟨_,_,g,h,f,i,l.off c.X,_,rfl,rfl,CU a rfl rfl t⟩
     |exact⟨_,_,g,h,f,i,l.off c.X,_,rfl,rfl,CV a rfl rfl t⟩
     |exact⟨_,_,g,h,f,i,l.off c.X,_,rfl,rfl,lM j a v rfl t⟩
     |exact⟨_,_,g,h,f,i,l.off c.X,_,rfl,rfl,fin_no j a v rfl t⟩
     |exact⟨_,_,g,h,f,i,l.off c.X,_,rfl,rfl,fin_om j a v rfl t⟩
     |exact⟨_,_,g,h,f,i,l.off c.X,_,rfl,rfl,lN j a v rfl t⟩
     |exact⟨_,_,g,h,f,i,l.off c.X,_,rfl,rfl,lM j a y rfl t⟩
     |exact⟨_,_,g,h,f,i,l.off c.X,_,rfl,rfl,fin_no j a y rfl t⟩
     |exact⟨_,_,g,h,f,i,l.off c.X,_,rfl,rfl,fin_om j a y rfl t⟩
     |exact⟨_,_,g,h,f,i,l.off c.X,_,rfl,rfl,lN j a y rfl t⟩
     |exact⟨_,_,g,h,f,i,l.off c.X,_,rfl,rfl,lM j a B rfl t⟩
     |exact⟨_,_,g,h,f,i,l.off c.X,_,rfl,rfl,fin_no j a B rfl t⟩
     |exact⟨_,_,g,h,f,i,l.off c.X,_,rfl,rfl,fin_om j a B rfl t⟩
     |exact⟨_,_,g,h,f,i,l.off c.X,_,rfl,rfl,lN j a B rfl t⟩
     |exact⟨_,_,g,h,f,i,l.off c.X,_,rfl,rfl,lM j a L rfl t⟩
     |exact⟨_,_,g,h,f,i,l.off c.X,_,rfl,rfl,fin_no j a L rfl t⟩
     |exact⟨_,_,g,h,f,i,l.off c.X,_,rfl,rfl,fin_om j a L rfl t⟩
     |exact⟨_,_,g,h,f,i,l.off c.X,_,rfl,rfl,lN j a L rfl t⟩
     |exact⟨_,_,g,h,f,i,l.off c.X,_,rfl,rfl,FA.write2 j a v y (by omega) _ _ t⟩
     |exact⟨_,_,g,h,f,i,l.off c.X,_,rfl,rfl,FA.write2 j a v B (by omega) _ _ t⟩
     |exact⟨_,_,g,h,f,i,l.off c.X,_,rfl,rfl,FA.write2 j a v L (by omega) _ _ t⟩
     |exact⟨_,_,g,h,f,i,l.off c.X,_,rfl,rfl,FA.write2 j a y v (by omega) _ _ t⟩
     |exact⟨_,_,g,h,f,i,l.off c.X,_,rfl,rfl,FA.write2 j a y B (by omega) _ _ t⟩
     |exact⟨_,_,g,h,f,i,l.off c.X,_,rfl,rfl,FA.write2 j a y L (by omega) _ _ t⟩
     |exact⟨_,_,g,h,f,i,l.off c.X,_,rfl,rfl,FA.write2 j a B v (by omega) _ _ t⟩
     |exact⟨_,_,g,h,f,i,l.off c.X,_,rfl,rfl,FA.write2 j a B y (by omega) _ _ t⟩
     |exact⟨_,_,g,h,f,i,l.off c.X,_,rfl,rfl,FA.write2 j a B L (by omega) _ _ t⟩
     |exact⟨_,_,g,h,f,i,l.off c.X,_,rfl,rfl,FA.write2 j a L v (by omega) _ _ t⟩
     |exact⟨_,_,g,h,f,i,l.off c.X,_,rfl,rfl,FA.write2 j a L y (by omega) _ _ t⟩
     |exact⟨_,_,g,h,f,i,l.off c.X,_,rfl,rfl,FA.write2 j a L B (by omega) _ _ t⟩
 case rest=>obtain⟨aU,aV,g,h,f,i,Q,W,rfl,rfl,d,b4,b5,b6,z⟩:=hcut;obtain⟨K,ch,ci,an,ak⟩:=dD d b4 b5 b6 z;obtain⟨T,a2⟩:=(U I) _ d.2.1;clear d b4 b5 b6 z aj av ax;go_wp2_with fail;refine(uC M _).mono ?_;rintro e cT ⟨rfl,cj⟩;obtain rfl:=cj.symm;go_wp2;go_ret;obtain⟨cl,cp,aJ⟩:=FA.fix K (o:=.cells #[.func (.func (jg M)) #[] #[]] 428) rfl;exact⟨_,_,rfl,_,cl.from (w:=J) (by rw[U b'];exact b7),fun ar=>IC _ _ _ _ _ _ _ _ _ _ _ _ _ _ _ _ (aJ _ _ ch) (aJ _ _ ci) cp ((ak ar).1.mono (an.trans aJ)) ((ak ar).2.mono (an.trans aJ)) (H1 M)⟩
def ID(W:World)(u:Value):Prop:= ∀a b c d,u=.slice (some ⟨a,b,none⟩) c d->W.heap.size<=a
def vh(e:World)(F:Fx)(n g:Nat)(h i:Array Value)(f:List (List Int)->List Int):Prop:=sZ g/\ ∀(a:World) (c:Value) (rows:List (List Int)),gh e F a->(∀j∈rows,j.length=n)->rows.length<=4000->bZ a c rows->Calls prog g (h++ #[c]++i) a fun k d=> ∃b,k=.returned b/\aS d b (aE (f rows))/\ID a b/\(f rows).length=rows.length/\Below a.heap.size a d
theorem vh.mono{a:World}{F b:Fx}{n g:Nat}{c d:Array Value}{f:List (List Int)->List Int}(e:vh a F n g c d f)(h:F.le b):vh a b n g c d f:=⟨e.1,fun i j rows k=>e.2 i j rows (k.mono h)⟩
theorem rY{W:World}{g:Nat}{T:TypeId}{xs:List Value}(a:W.heap[g]? =some (.cells xs.toArray T (0,0)))(b:xs.length<=maxLen)(cap:Nat):aS W (.slice (some ⟨g,0,none⟩) xs.length cap) xs:=
 ⟨_,cap,rfl,b,fun _=>⟨g,0,rfl,aa a,fun j _=>by rw[JV,(blk a).1];simp⟩⟩
theorem H6(D:World)(F:Fx)(n bx g:Nat)(v:Array Value)(f:List Int->Int)(T:TypeId)(E:F bx=some (.cells #[.func (.func g) #[] v] T (0,0)))(w:eQ D F n g v f):
  vh D F n 248 #[] #[.pointer (some ⟨bx,0,none⟩)] (fun rows=>rows.map f):=by
 refine⟨enters_of func248 (by kernel_rfl) rfl,fun c bg rows x G bk ao=>?_⟩;obtain⟨ap,H,I⟩:=Jq.1 mw;simp only[JB]at I;obtain⟨J,K,L⟩:=I;obtain⟨ar,au,av,y⟩:=aP H J K L;clear H J K L;have bl:=w.1;have ax:=ab w.2;obtain⟨ay,aA,M⟩:=aC x G (x.new _ _ E);obtain⟨N,⟨bn,bq,rfl,O,z⟩,o,P⟩:=ao;rw[o]at O z;obtain⟨aI,aJ,aL⟩:=aC z P o;rw[o];clear E w x G z P o O
 show Calls prog 248 #[_,_] c _
 go_enter func248,ntmps248;go_wp2_with (at_make;refine KU _ rfl _ _ 32 rfl c.heap.size 3 ap (.int .i64 0) 1 underlying32 ar au av .i64 .i64 _ _ rows.length rfl rfl ?c1 ?c2 ?c3 ?c4 ?c5 ?_)
 case c1=>simp
 case c2=>simp
 case c3=>rw[U y];omega
 case c4=>unfold maxLen;omega
 case c5=>exact Ji _
 intro Q R S;rcases R.2 with⟨hv,_⟩|⟨g1,cap,cur,hv,hge,h,c1,c2,c3,c4⟩
 ·cases hv
 injection hv with k aN aR;injection k with k;injection k with k;subst k;have br:cur.toList.length=rows.length:=by rw[JP,c3];omega
 have aT:Hid (Q.heap[c.heap.size]? =some (.cells cur.toList.toArray 3 (0,0))):=by unfold Hid;rw[h]
 have aU:Hid (Below c.heap.size c Q):=(Jj _ _).grown S (Ji _) (fun bs b=>by cases b);clear R S h c1 c2 c3 c4 aN aR hge;generalize cur.toList=j at*;go_wp2_with fail
 go_loopg [5,6,12] rows.length (fun aV _ _ a0 V=> ∃a d,rows=a++d/\aV=d.length/\a0=.int .i64 (a.length:Nat)/\V.heap[c.heap.size]? =some (.cells (aE (a.map f)++j.drop a.length).toArray 3 (0,0))/\Below c.heap.size c V)
 case atStart=>exact⟨[],rows,rfl,rfl,rfl,by simpa using U aT,aU⟩
 case round=>
  obtain⟨a,d,A,rfl,rfl,h,W⟩:=hrel;have X:a.length+d.length=rows.length:=by rw[A,Jk]
  obtain⟨q,Y,i⟩:=aC A h W;have a1:=aa h;obtain⟨r,bt⟩:=blk h;clear A h W
  cases d with
  |nil=>
   have a2:decide (a.length<rows.length)=false:=by simp at X⊢;omega
   go_wp2;go_ret;refine⟨_,rfl,?_,fun bu bv n bz b=>by injection b with b _ _;injection b with b;injection b with b;omega,by simp,i⟩;have b:a=rows:=by rw[U q];simp
   have Z:=U Y;rw[b,Mq (by omega),JD]at Z;have ac:=rY Z (by simp;unfold maxLen;omega) rows.length;rw[show(aE (rows.map f)).length=rows.length from by simp]at ac;exact ac
  |cons e d=>
   rw[Ju]at X;have a2:decide (a.length<rows.length)=true:=by simp;omega
   have y:Hid (rows=(a++[e])++d):=by unfold Hid;rw[U q];simp
   obtain⟨ad,a3,rfl,a4,ae⟩:=(U aI) (by omega)
   obtain⟨s,B⟩: ∃s,N[a.length]? =some s:=⟨N[a.length]'(by rw[U aL];omega),Jl _⟩
   have aj:=(U aJ) a.length e s (by rw[U q];simp) B;have ak:wr.cell? ⟨ad,a3+a.length,none⟩=some s:=by rw[i.cell (p:=⟨ad,_,none⟩) a4,ae _ (by omega),B]
   have al:=ab (aj.keep i);have a5:Hid (e.length=n):=(U aA) e (by rw[U q];simp);obtain⟨bA,bF,rfl,_,_⟩:=aj;rw[Jm]at ak al;have a9:wr.cell? ⟨bx,0,none⟩=some (.func (.func g) #[] v):=by rw[i.cell (p:=⟨bx,0,none⟩) (aa (U M)),(blk (U M)).1];rfl
   clear B ae r;go_wp2_with fail;refine(ax _ _ e (by exact ay.below i) a5 (by exact al)).mono ?_;rintro b an ⟨rfl,C⟩;have t:=(C.block _ a1).trans Y;have a':=ab t;have ba:Hid (Below c.heap.size c an):=i.trans (C.mono i.size);have bG:=aa t;obtain⟨r,bJ⟩:=blk t;have bb:(aE (a.map f)).length=a.length:=by simp
   obtain⟨l,m,u⟩: ∃l m,j.drop a.length=l::m:=by
    cases b:j.drop a.length with
    |nil=>exfalso;have:=JE List.length b;rw[J6]at this;simp at this;omega
    |cons l m=>exact⟨l,m,rfl⟩
   have bL:an.cell? ⟨c.heap.size,a.length,none⟩=some l:=by rw[r,u];simp
   have bc:Hid ((aE (a.map f)++j.drop a.length).toArray.setIfInBounds a.length (.int .i64 (f e))=(aE ((a++[e]).map f)++j.drop (a.length+1)).toArray):=by
    unfold Hid;have be:j.drop (a.length+1)=m:=by rw[<-Mr,u];rfl
    rw[u,be,JM,KC _ _ (by omega),bb,Kv,JX];simp
   clear C t r u ak a9;go_wp2;go_roundg d.length
   case measure=>simp
   case rel=>
    refine⟨a++[e],d,y,rfl,?_,?_,ba.setCell (by exact Ji _) _⟩
    ·rw[Jk];go_num
    ·rw[am (U a'),bc,Jk];rfl
def pf(c:Fc)(p:Int)(v q:Value)(r:Int)(s:ByteArray)(t:List Sr->Option (Nat×Nat))(f:List Sr->List (List Int)->List Int):Prop:= ∀(g:Fx) (b:World) (h i j u:Value) (d:Nat) (a:List Sr) (k e:Option (Nat×Nat)),FS c g b h i j u d a k->Hid (e=bQ k (t a))->
 Calls prog 197 #[.pointer (some ⟨c.fb,0,none⟩),.agg #[.int .i64 p,v,q,.int .i64 r,.string s]] b fun w x=> ∃l m n,w=.returned (.func (.func l) m n)/\ ∃o,FA c g b h i j d a e x o/\(e=none->vh c.w0 (o.off c.X) d l m n (f a))
theorem EW(c:Fc)(n:Nat)(p:Int)(v:Value)(k:Int)(m:ByteArray)(l:List Nd)(b:bC c.w0 (fun _=>True) n v l):
  pf c p v (.pointer none) k m (fun a=>cw c.T a l) (fun a rows=>rows.map (dm (a6 c.T a) l)):=by
 intro q d r s t u w a x y e z;have A:Hid (jR c n):=pd c n;obtain⟨B,C⟩:=ag e b;have L:=mj;have M: ∀(f:Fn) (first g:Array Value) (h:World),(Instr.makeFunc f first g).run prog h=.ok (.func f first g) h:=fun _ _ _ _=>rfl;obtain⟨N,O,rfl⟩:=bC.isI _ _ _ b;clear e b;go_enter func197,ntmps197;go_wp2_with fail;refine(A _ l q _ r s t u w a x y (by exact C) (by exact B.alloc _) z).mono ?_;rintro P Q ⟨D,E,rfl,R,i,j⟩;obtain⟨F,G⟩:=ag (i.from ((Jj d.heap.size d).alloc (Ji _) _)) j;clear i j;go_wp2;go_ret;obtain⟨H,I,J⟩:=FA.fix F (o:=.cells #[.func (.func D) #[] E] 426) rfl;exact⟨_,_,_,rfl,_,H,fun K=>H6 _ _ _ _ _ _ _ _ I ((G K).mono J)⟩
def FG(c:Fc)(F:Fx)(b d:Value)(f:Fs)(W':World):Prop:= ∃a e g,F.le a/\FS c a W' e b d g f.wd f.ss f.er
theorem xW(c:Fc)(F:Fx)(W:World)(i b d j:Value)(f:Nat)(g:List Sr)(er:Option (Nat×Nat))(h:FS c F W i b d j f g er)(p:Int)(t u:Tk)(s:dz c.T t.text=none):
  Calls prog 196 #[.pointer (some ⟨c.fb,0,none⟩),.agg #[.int .i64 p,.int .i64 t.place,.string t.text,.int .i64 u.place,.string u.text]] W fun e W'=>e=.returned (.tuple #[])/\FG c F b d ⟨g,f,bQ er (some (t.place,dY))⟩ W':=by
 obtain⟨D,a⟩:=ag h (h.alloc (.cells #[.int .i64 p,.int .i64 t.place,.string t.text,.int .i64 u.place,.string u.text] 260));clear h;go_enter func196,ntmps196
 go_upto_region 1 with(fail)
 have k:Hid ((W.alloc (.cells #[.int .i64 p,.int .i64 t.place,.string t.text,.int .i64 u.place,.string u.text] 260)).heap[W.heap.size]? =some (.cells #[.int .i64 p,.int .i64 t.place,.string t.text,.int .i64 u.place,.string u.text] 260 (0,0))):=af rfl;generalize W.alloc (.cells #[.int .i64 p,.int .i64 t.place,.string t.text,.int .i64 u.place,.string u.text] 260)=l at*;generalize W.heap.size=E at*;obtain⟨G,H⟩:=blk k;have I:=aa k;obtain⟨m,J,K⟩:=a.facts;have L:l.cell? ⟨c.fb,0,none⟩=some (.slice (some ⟨c.tb,c.tof,none⟩) c.T.length c.tc):=m 0;have M:=a.env.cell 5 (by decide);clear m
 go_cut [4] (fun v w=>v=.pointer none/\w=l.drew)
 case first=>
  go_region_with (go_at_call 242;refine(ow c.tb c.tof c.tc c.T t.text _ (by exact a.drew.tabs _ a.drew.fits)).mono ?_;rintro e x ⟨rfl,y⟩;obtain rfl:=y.symm;rw[s];simp only[Option.map_none])
  all_goals
   go_wp2_with fail;go_meet
   case rel=>exact⟨rfl,rfl⟩
 case rest=>obtain⟨rfl,rfl⟩:=hcut;go_wp2_with fail;refine(mD _ _ _ _).mono ?_;rintro e x ⟨z,rfl,A,N,n,o⟩;have q:=ab (qJ a.drew A n o);clear n o;go_wp2_with fail;refine(nJ c _ _ i b d j f g er (by exact q.2.2) z t.place dY (Fx.set_same _ _ _)).mono ?_;rintro e O ⟨rfl,B,P,r⟩;have C:=ab r;clear B r;go_wp2;refine Jr (results_none rfl _ _ _) rfl ?_;exact⟨rfl,_,_,_,q.1.le,C⟩
theorem Gv:(prog.info? 423).map (fun i=>(i.zero,i.size,i.bytes))=some (some (.agg #[.string ⟨#[]⟩,.pointer none,.int .i64 0]),3,32):=by kernel_rfl
theorem IE(a:ByteArray)(c:Option Addr)(n:Int): ∀u∈ [Value.string a,Value.pointer c,Value.int .i64 n],u.oneCell'=true:=by intro u b;simp only[JG,JO,Kg]at b;rcases b with rfl|rfl|rfl<;>rfl
theorem FS.grew{c:Fc}{F:Fx}{W f:World}{h k l o:Value}{i:Nat}{d:List Sr}{er:Option (Nat×Nat)}{g cap:Nat}{s:Sr}(a:FS c F W h k l o i d er)(j:W.grownBy f h.ownBlock)(u:h.ownBlock=some g∨g=W.heap.size)(v:g<f.heap.size)
  (w:f.ownsRow c.w0.heap.size 423 3 (.slice (some ⟨g,0,none⟩) (d.length+1) cap) (d.length+1) (kG c (d++[s]))) (B:d.length<3) (m:s.tab<c.T.length) (x:s.first=i):
  FS c F ((f.setCell ⟨c.fb,2,none⟩ (.slice (some ⟨g,0,none⟩) (d.length+1) cap)).setCell ⟨c.fb,3,none⟩ (.int .i64 ((i+(bh c.T s).length:Nat):Int))) (.slice (some ⟨g,0,none⟩) (d.length+1) cap) k l o (i+(bh c.T s).length) (d++[s]) er:=by
 have p:Below c.w0.heap.size W f:=(Jj _ _).grown j a.old.size (fun y e=>(a.grow.off h JK y e).2.2.1);have q:=aZ.app (vs1:=[]) (vs2:=[k,l]) (v':=.slice (some ⟨g,0,none⟩) (d.length+1) cap) a.grow a.old.size j rfl (u.imp id (fun e=>by rw[e];exact Ji _)) v;have r:g≠c.fb:=(q.off (.slice (some ⟨g,0,none⟩) (d.length+1) cap) JK g rfl).2.1;have z:=(j.block c.fb a.grow.ltp (fun e=>(a.grow.off h JK _ e.symm).2.1 rfl)).trans a.box;have C:(bh c.T s).length<=6:=by unfold bh;rw[JC,Jl m];exact a.wide.2.2 _ (Ky m)
 have t:=a.wide;refine⟨(a.env.keep p).keep (((Jj _ _).setCell a.low _).setCell a.low _),((a.old.trans p).setCell a.low _).setCell a.low _,(q.box _ _).box _ _,?_,a.err,a.tabs,?_,?_,?_,?_,fun A e=>?_,a.low⟩
 ·rw[am (am z _)];rfl
 ·rw[Jk];exact bD (bD w (by simp[Value.ownBlock];exact r)) (by simp[Value.ownBlock];exact r)
 ·rw[Jk,Ju,Kr];omega
 ·intro n b;rcases JW.1 b with b|b
  ·exact a.ok n b
  ·rw[JN.1 b];exact m
 ·refine⟨by rw[Jk,Ju,Kr];omega,fun n b=>?_,t.2.2⟩;rcases JW.1 b with b|b
  ·have:=t.2.1 n b;omega
  ·rw[JN.1 b,x];omega
 ·have:=a.fbX A e;have:=j.size;simp[World.setCell];omega
end
end Go.Proofs.YtfkeddkfegaeiaaGreatDoor
