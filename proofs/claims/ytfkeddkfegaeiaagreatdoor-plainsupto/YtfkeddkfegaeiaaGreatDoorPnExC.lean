import Derived.Test.YtfkeddkfegaeiaaGreatDoorPnScanC
set_option maxRecDepth 100000
set_option maxHeartbeats 20000000
namespace Go.Proofs.YtfkeddkfegaeiaaGreatDoor
section
open Go.RowKit Tryz
theorem fI.kp{w w':World}{r b:Nat}{xs:List ByteArray}(a:fI w b xs)(c:Kp r w w')(d:b≠r):fI w' b xs:=
 ⟨Js a.1 c.size,fun j e=>(c.cell (p:=⟨b,0+j,none⟩) a.1 d).trans (a.2 j e)⟩
theorem jQ.cells{v:Value}(a:jQ v):v.cells= #[v]:=by rcases a with rfl|⟨u,x,rfl⟩<;>rfl
structure qC(c:Cx)(w:World)(fn:St->Rx)(xs:List ByteArray)(d sb pl:Nat)(R:Rx)(f:Nat)(v:Value)(wr:World)(l:List Nd)(st':St)(ev':Value):Prop where
 isI:jQ v
 rs:RS c wr st' ev'
 kp:Kp c.rb w wr
 ex:st'.er=none->eD wr w.heap.size v l
 eq:R=cD c.ts fn xs pl f l st'
 fuel:c.ts.length<=f+st'.nx
 dp:st'.dp=d
 start:wr.heap[sb]? =some (.cells #[.int .i64 pl] 170 (0,0))
theorem sw{c:Cx}{w wr f e:World}{b:St->Rx}{xs:List ByteArray}{d i g gk:Nat}{R:Rx}{v j:Value}{l:List Nd}{st':St}{q r n:Value}(a:qC c w b xs d i g R (gk+1) v wr l st' q)(s:az c.ts st' xs=true)
  (t:RS c f (aD st') r) (o:Kp c.rb wr f) (u:fT c.ts b) (x:RS c e (b (aD st')).2 n) (y:Kp c.rb f.drew e) (_hv4:jQ j) (hex:(b (aD st')).2.er=none->eD e f.drew.heap.size j (b (aD st')).1) (z:i≠c.rb):
  qC c w b xs d i g R gk (.iface 265 (.pointer (some ⟨e.heap.size,0,none⟩))) (e.alloc (.cells #[.int .i64 g,v,.string (ah c.ts st'.nx).text,j] 263)) (fZ g (ah c.ts st'.nx).text::(l++(b (aD st')).1)) (b (aD st')).2 n:=by
 have k:=u (aD st') t.nx;have h:Kp c.rb wr e:=o.drew.trans y;refine⟨Or.inr ⟨_,_,rfl⟩,x.alloc _,(a.kp.trans h).alloc _,fun p=>?_,?_,?_,k.dp.trans a.dp,ai ((h.block _ (aa a.start) z).trans a.start)⟩
 ·refine eD.pair (Jt a.kp.size h.size) (af rfl) ((a.ex (k.er p)).keep (Ji _) ?_) ((hex p).keep (Jt a.kp.size o.size) (a7.ofBelow ((Jj _ _).alloc (Ji _) _)));exact(a.rs.nodes h).trans (a7.ofBelow ((Jj _ _).alloc (Ji _) _))
 ·have m:=a.eq;unfold cD at m;rw[Jo s]at m;exact m
 ·have A:=a.fuel;have B:st'.nx+1<=(b (aD st')).2.nx:=k.nx;omega
theorem A8(c:Cx)(w:World)(st:St)(l:Value)(d:St->Rx)(b:Nat)(xs:List ByteArray)(R:Rx)(x:RS c w st l)(y:Hid (fI w b xs))(z:b≠c.rb)(A:xs.length<=100)(S:Hid (EB xs=true))(B:Hid (fT c.ts d))(C:Hid (lS c 275 st.dp d))(T:Hid (R=iD c.ts d xs st)):
  Calls prog 274 #[.pointer (some ⟨c.rb,0,none⟩),.func (.func 275) #[.pointer (some ⟨c.rb,0,none⟩)] #[],.slice (some ⟨b,0,none⟩) xs.length xs.length] w fun e w'=>jl c w R e w':=by
 have m:=ab x;clear x;have ax:=ec;go_enter func274,ntmps274;go_wp2_with fail;refine(cX c _ st l (by exact m)).mono ?_;rintro e f ⟨rfl,n⟩;obtain⟨D,E⟩:=ag n (m.keep n);clear n;generalize F:(ah c.ts st.nx).place=G at*;have V:=ab F;clear F;go_wp2_with fail;refine(U C _ st l (by exact E.alloc _) rfl).mono ?_;rintro e W ⟨X,rfl,H,⟨⟨Y,I⟩,o⟩,J⟩;have k:f.heap.size≠c.rb:=by have:=aa E.reader;omega
 have K:Hid (qC c w d xs st.dp f.heap.size G R c.ts.length X W (d st).1 (d st).2 Y):=by refine⟨H,I,((Kp.ofBelow D).alloc _).trans o,fun p=>(J p).keep (Jt D.size (by simp)) (a7.ofBelow (Jj _ _)),?_,by omega,(U B st m.nx).dp,(o.block f.heap.size (by simp) k).trans (af rfl)⟩;rw[U T,<-U V];rfl
 clear H I o J;go_wp2_with fail
 go_loopg [8] c.ts.length (fun Z ac wr=> ∃L g h,qC c w d xs st.dp f.heap.size G R Z ac wr L g h)
 case atStart=>exact⟨_,_,_,K⟩
 case round=>
  obtain⟨L,g,h,hrel⟩:=hrel;have a:=ab hrel;have ay:=hrel.kp.size;obtain⟨ad,f0⟩:=blk hrel.start;clear hrel K
  match gk,a with
  |0,a=>exact absurd a.fuel (by have:=a.rs.nx;omega)
  |gk+1,a=>
  cases i:az c.ts g xs with
  |false=>have j:=ab i;clear i;go_wp2_with fail;refine(kh c _ g h b xs (by exact a.rs) (y.kp a.kp z) A j).mono ?_;rintro e ae ⟨rfl,M⟩;have q:=ab M;clear M;go_wp2;go_ret;have r:=a.eq;unfold cD at r;rw[Jn (by rw[U j];decide)]at r;subst r;exact⟨_,rfl,a.isI,⟨⟨h,a.rs.keep q⟩,a.kp.trans (Kp.ofBelow q)⟩,fun p=>(a.ex p).keep (Ji _) (a7.ofBelow q)⟩
  |true=>
   have aA:=mG i (dt S);have j:=ab i;clear i;go_wp2_with fail;refine(ji c _ g h b xs (by exact a.rs) (y.kp a.kp z) A j).mono ?_;rintro e ae ⟨rfl,⟨aj,N⟩,s⟩;obtain⟨O,ak,t⟩:=aC N s ((s.block f.heap.size (aa a.start) k).trans a.start);obtain⟨aI,f3⟩:=blk t;have aJ:=aa t;clear N s ad f0;go_wp2_with fail
   go_region_with (go_at_call 275;refine(U C _ (aD g) aj (by exact O.drew) (by exact a.dp)).mono ?_;rintro e aL ⟨aN,rfl,u,⟨⟨al,P⟩,v⟩,Q⟩;obtain⟨aR,f4⟩:=blk ((v.block f.heap.size (by simp;omega) k).trans (by exact t));have an:=u.cells;have ao:=a.isI.cells;unfold Value.cells at an ao;have ap:=ab u;have ar:=ab P;have au:=ab v;have av:=ab Q;clear u P v Q)
   all_goals
    go_wp2;go_roundg gk
    case measure=>omega
    case rel=>refine⟨_,_,al,sw a j O ak B ar au ap av k⟩
theorem xj(c:Cx)(w:World)(st:St)(l:Value)(d:St->Rx)(b:Nat)(xs:List ByteArray)(R:Rx)(x:RS c w st l)(y:Hid (fI w b xs))(z:b≠c.rb)(A:xs.length<=100)(S:Hid (EB xs=true))(B:Hid (fT c.ts d))(C:Hid (lS c 310 st.dp d))(T:Hid (R=iD c.ts d xs st)):
  Calls prog 274 #[.pointer (some ⟨c.rb,0,none⟩),.func (.func 310) #[.pointer (some ⟨c.rb,0,none⟩)] #[],.slice (some ⟨b,0,none⟩) xs.length xs.length] w fun e w'=>jl c w R e w':=by
 have m:=ab x;clear x;have ax:=ec;go_enter func274,ntmps274;go_wp2_with fail;refine(cX c _ st l (by exact m)).mono ?_;rintro e f ⟨rfl,n⟩;obtain⟨D,E⟩:=ag n (m.keep n);clear n;generalize F:(ah c.ts st.nx).place=G at*;have V:=ab F;clear F;go_wp2_with fail;refine(U C _ st l (by exact E.alloc _) rfl).mono ?_;rintro e W ⟨X,rfl,H,⟨⟨Y,I⟩,o⟩,J⟩;have k:f.heap.size≠c.rb:=by have:=aa E.reader;omega
 have K:Hid (qC c w d xs st.dp f.heap.size G R c.ts.length X W (d st).1 (d st).2 Y):=by refine⟨H,I,((Kp.ofBelow D).alloc _).trans o,fun p=>(J p).keep (Jt D.size (by simp)) (a7.ofBelow (Jj _ _)),?_,by omega,(U B st m.nx).dp,(o.block f.heap.size (by simp) k).trans (af rfl)⟩;rw[U T,<-U V];rfl
 clear H I o J;go_wp2_with fail
 go_loopg [8] c.ts.length (fun Z ac wr=> ∃L g h,qC c w d xs st.dp f.heap.size G R Z ac wr L g h)
 case atStart=>exact⟨_,_,_,K⟩
 case round=>
  obtain⟨L,g,h,hrel⟩:=hrel;have a:=ab hrel;have ay:=hrel.kp.size;obtain⟨ad,f0⟩:=blk hrel.start;clear hrel K
  match gk,a with
  |0,a=>exact absurd a.fuel (by have:=a.rs.nx;omega)
  |gk+1,a=>
  cases i:az c.ts g xs with
  |false=>have j:=ab i;clear i;go_wp2_with fail;refine(kh c _ g h b xs (by exact a.rs) (y.kp a.kp z) A j).mono ?_;rintro e ae ⟨rfl,M⟩;have q:=ab M;clear M;go_wp2;go_ret;have r:=a.eq;unfold cD at r;rw[Jn (by rw[U j];decide)]at r;subst r;exact⟨_,rfl,a.isI,⟨⟨h,a.rs.keep q⟩,a.kp.trans (Kp.ofBelow q)⟩,fun p=>(a.ex p).keep (Ji _) (a7.ofBelow q)⟩
  |true=>
   have aA:=mG i (dt S);have j:=ab i;clear i;go_wp2_with fail;refine(ji c _ g h b xs (by exact a.rs) (y.kp a.kp z) A j).mono ?_;rintro e ae ⟨rfl,⟨aj,N⟩,s⟩;obtain⟨O,ak,t⟩:=aC N s ((s.block f.heap.size (aa a.start) k).trans a.start);obtain⟨aI,f3⟩:=blk t;have aJ:=aa t;clear N s ad f0;go_wp2_with fail
   go_region_with (go_at_call 310;refine(U C _ (aD g) aj (by exact O.drew) (by exact a.dp)).mono ?_;rintro e aL ⟨aN,rfl,u,⟨⟨al,P⟩,v⟩,Q⟩;obtain⟨aR,f4⟩:=blk ((v.block f.heap.size (by simp;omega) k).trans (by exact t));have an:=u.cells;have ao:=a.isI.cells;unfold Value.cells at an ao;have ap:=ab u;have ar:=ab P;have au:=ab v;have av:=ab Q;clear u P v Q)
   all_goals
    go_wp2;go_roundg gk
    case measure=>omega
    case rel=>refine⟨_,_,al,sw a j O ak B ar au ap av k⟩
theorem uT(c:Cx)(d:Nat)(a:St->Rx)(f:fT c.ts a)(g:lS c 310 d a):lS c 275 d (jk c.ts a):=by
 intro h i o j p;subst p;obtain⟨k,q,r⟩:=aC j g f;clear j g f;have s:h.heap.size≠c.rb:=by have:=aa k.reader;omega
 obtain⟨b,l⟩: ∃b,Hid (b=jk c.ts a i):=⟨_,rfl⟩
 rw[<-U l];go_enter func275,ntmps275;go_wp2_with fail;refine(xj c _ i o a h.heap.size [⟨#[42]⟩] b (by exact k.alloc _) (by exact bo rfl (fun t u=>by match t,u with|0,_=>rfl)) s (by simp) (ab (by decide)) r q l).mono ?_;intro y z v;obtain⟨w,rfl,m,n,hex⟩:=v;have e:=ab (And.intro m (And.intro n hex));clear m n hex;go_wp2;go_ret;exact⟨w,rfl,e.1,eO.trans ((Kp.refl _ _).alloc _) e.2.1,fun x=>(e.2.2 x).keep (by simp) (a7.ofBelow (Jj _ _))⟩
theorem uU(c:Cx)(d:Nat)(a:St->Rx)(f:fT c.ts (jk c.ts a))(g:lS c 275 d (jk c.ts a)):lS c 218 d (ek c.ts a):=by
 intro h i o j p;subst p;obtain⟨k,q,r⟩:=aC j g f;clear j g f;have s:h.heap.size≠c.rb:=by have:=aa k.reader;omega
 obtain⟨b,l⟩: ∃b,Hid (b=ek c.ts a i):=⟨_,rfl⟩
 rw[<-U l];go_enter func218,ntmps218;go_wp2_with fail;refine(A8 c _ i o (jk c.ts a) h.heap.size [⟨#[43]⟩,⟨#[45]⟩] b (by exact k.alloc _) (by exact bo rfl (fun t u=>by match t,u with|0,_=>rfl|1,_=>rfl)) s (by simp) (ab (by decide)) r q l).mono ?_;intro y z v;obtain⟨w,rfl,m,n,hex⟩:=v;have e:=ab (And.intro m (And.intro n hex));clear m n hex;go_wp2;go_ret;exact⟨w,rfl,e.1,eO.trans ((Kp.refl _ _).alloc _) e.2.1,fun x=>(e.2.2 x).keep (by simp) (a7.ofBelow (Jj _ _))⟩
theorem Gf(ts:List Tk)(st:St)(k:Nat):(bM ts st k).er≠none:=by
 unfold bM
 cases st.er with
 |none=>simp
 |some a=>simp
theorem zD(c:Cx)(w:World)(st:St)(b:Value)(a:RS c w st b)(d:st.dp=17):
  Calls prog 310 #[.pointer (some ⟨c.rb,0,none⟩)] w fun e w'=>jl c w ([],bM c.ts st cB) e w':=by
 obtain⟨k,l,g,m,n,o⟩:=a.facts;rw[d]at g;have p:=a.env.cell 4 (by decide);have h:=ab a;clear a d;go_enter func310,ntmps310;go_wp2_with fail;refine(iC c _ st b cB (by exact h)).mono ?_;rintro e q ⟨rfl,f⟩;have i:=ab f;clear f;go_wp2;go_ret;exact⟨.nilIface,rfl,Or.inl rfl,i,fun j=>absurd j (Gf _ _ _)⟩
theorem xk(c:Cx)(w:World)(st:St)(a:Value)(n:Nat)(R:Rx)(b:RS c w st a)(y:st.dp<=16)(z:Hid (lS c 310 (st.dp+1) (aQ c.ts n)))(A:Hid (az c.ts st jH=true))(B:Hid (R=eK (aQ c.ts n) (aD st))):
  Calls prog 310 #[.pointer (some ⟨c.rb,0,none⟩)] w fun e w'=>jl c w (gv (ah c.ts st.nx).place::R.1,R.2) e w':=by
 obtain⟨C,D,E,F,G,V⟩:=b.facts;have W:decide (16<(st.dp:Int))=false:=by simp;omega
 have X:=ec;have d:=ab b;clear b;go_enter func310,ntmps310;go_wp2_with fail;refine(cX c _ st a (by exact d)).mono ?_;rintro e f ⟨rfl,g⟩;obtain⟨H,l⟩:=ag g (d.keep g);clear g C D E F G;generalize m:(ah c.ts st.nx).place=I at*;have J:=ab m;clear m;have o:f.heap.size≠c.rb:=by have:=aa l.reader;omega
 go_wp2_with fail;refine(fu c _ st a ⟨#[45]⟩ (by exact l.alloc _) (by rw[JA];rfl) (by exact A)).mono ?_;rintro e Y ⟨rfl,⟨K,p⟩,h⟩;have i:=ab ((h.block f.heap.size (by simp) o).trans (af rfl));obtain⟨Z,f2⟩:=blk i;have ac:=aa i;obtain⟨L,j⟩:=ag p (((Kp.ofBelow (r:=c.rb) H).alloc _).trans h);clear p h;go_wp2_with fail
 go_region_with (go_at_call 328;refine(wn c _ (aD st) K (aQ c.ts n) (by exact L.drew) y (cm d.last n) z).mono ?_;rintro e q ⟨M,rfl,s,⟨⟨N,t⟩,k⟩,u⟩;obtain⟨ad,f4⟩:=blk ((k.block f.heap.size (by simp;omega) o).trans (by exact i));have O:=s.cells;unfold Value.cells at O;have P:=ab t;have v:=ab k;have Q:=ab u;clear s t k u)
 all_goals
  go_wp2;go_ret;rw[U B];refine⟨.iface 392 (.pointer (some ⟨q.heap.size,0,none⟩)),rfl,Or.inr ⟨_,_,rfl⟩,⟨⟨N,P.alloc _⟩,(j.drew.trans v).alloc _⟩,fun S=>?_⟩;obtain⟨x,T⟩:=(U Q) S;rw[U J];exact⟨x+1,Or.inr (Or.inl ⟨q.heap.size,I,M,_,rfl,Jt j.size v.size,af rfl,rM.keep j.size (a7.ofBelow ((Jj _ _).alloc (Ji _) _)) x _ _ T,rfl⟩)⟩
theorem zE(c:Cx)(w:World)(st:St)(f:Value)(n:Nat)(R:Rx)(i:RS c w st f)(F:st.dp<=16)(G:Hid (lS c 218 (st.dp+1) (ek c.ts (aQ c.ts n))))(H:Hid (az c.ts st jH=false))(I:Hid (az c.ts st ju=true))(J:Hid (R=eK (ek c.ts (aQ c.ts n)) (aD st))):
  Calls prog 310 #[.pointer (some ⟨c.rb,0,none⟩)] w fun e w'=>jl c w (mH (ah c.ts st.nx).place::R.1,aH c.ts R.2 oe) e w':=by
 obtain⟨K,L,M,N,O,ay⟩:=i.facts;have aA:decide (16<(st.dp:Int))=false:=by simp;omega
 have aI:=ec;have b:=ab i;clear i;go_enter func310,ntmps310;go_wp2_with fail;refine(cX c _ st f (by exact b)).mono ?_;rintro e g ⟨rfl,j⟩;obtain⟨P,k⟩:=ag j (b.keep j);clear j K L M N O;generalize s:(ah c.ts st.nx).place=Q at*;have S:=ab s;clear s;have t:g.heap.size≠c.rb:=by have:=aa k.reader;omega
 go_wp2_with fail;refine(eF c _ st f ⟨#[45]⟩ (by exact k.alloc _) (by exact H)).mono ?_;rintro e aJ ⟨rfl,h⟩;obtain⟨u,T,V⟩:=aC ((h.block g.heap.size (by simp)).trans (af rfl)) ((k.alloc _).keep h) h;clear h;go_wp2_with fail;refine(fu c _ st f ⟨#[40]⟩ (by exact T) (by rw[JA];rfl) (by exact I)).mono ?_;rintro e W ⟨rfl,⟨X,v⟩,l⟩;have m:=ab ((l.block g.heap.size (aa u) t).trans u);obtain⟨aL,f2⟩:=blk m;have aN:=aa m;obtain⟨Y,o⟩:=ag v ((((Kp.ofBelow (r:=c.rb) P).alloc _).trans (Kp.ofBelow V)).trans l);clear v l;go_wp2_with fail
 go_region_with (go_at_call 328;refine(zC c _ (aD st) X (ek c.ts (aQ c.ts n)) (by exact Y.drew) F (jI b.last (cm b.last n)) G).mono ?_;rintro e a ⟨Z,rfl,x,⟨⟨ac,y⟩,p⟩,z⟩;obtain⟨aR,f4⟩:=blk ((p.block g.heap.size (by simp;omega) t).trans (by exact m));have ad:=x.cells;unfold Value.cells at ad;have d:=ab y;have A:=ab p;have B:=ab z;clear x y p z)
 all_goals
  have ae:a.heap.size≠c.rb:=by have:=aa d.reader;omega
  have aj:Hid (R=eK (ek c.ts (aQ c.ts n)) (aD st)):=J;rw[<-U aj]at d B;go_wp2_with fail;refine(dv c _ R.2 ac (a.heap.size+1) [⟨#[41]⟩] (by exact(d.alloc _).alloc _) (by exact bo (by simp) (fun ak al=>by match ak,al with|0,_=>rfl)) (by simp) (dt (by decide))).mono ?_;rintro e an ⟨rfl,⟨ao,C⟩,q⟩;obtain⟨ap,ar,D⟩:=aC ((q.block a.heap.size (by simp;omega) ae).trans (ai (af rfl))) C q;clear C q;go_wp2;go_ret;refine⟨.iface 398 (.pointer (some ⟨a.heap.size,0,none⟩)),rfl,Or.inr ⟨_,_,rfl⟩,⟨⟨ao,ar⟩,(((o.drew.trans A).alloc _).alloc _).trans D⟩,fun au=>?_⟩
  obtain⟨E,av⟩:=(U B) ((aM b.last d.nx oe).er au)
  rw[U S];have ax:a7 W.drew.heap.size a an:=(a7.ofBelow (((Jj _ _).alloc (Ji _) _).alloc (by simp) _)).trans (((d.alloc _).alloc _).nodes D);exact⟨E+1,Or.inr (Or.inr (Or.inr (Or.inl ⟨a.heap.size,Q,Z,_,rfl,Jt o.size A.size,ap,rM.keep o.size ax E _ _ av,rfl⟩)))⟩
theorem A9(c:Cx)(w:World)(st:St)(a:Value)(b:RS c w st a)(I:st.dp<=16)(q:Hid (az c.ts st jH=false))(s:Hid (az c.ts st ju=false))(J:(((ah c.ts st.nx).kind:Int)==3)=true):
  Calls prog 310 #[.pointer (some ⟨c.rb,0,none⟩)] w fun e w'=>jl c w ([mh (bP c.ts st 3)],cx c.ts st 3) e w':=by
 obtain⟨t,u,v,x,y,K⟩:=b.facts;have L:decide (16<(st.dp:Int))=false:=by simp;omega
 have M:=ec;have N:=oQ;have i:=ab b;clear b;go_enter func310,ntmps310;go_wp2_with fail;refine(cX c _ st a (by exact i)).mono ?_;rintro e O ⟨rfl,d⟩;obtain⟨z,j⟩:=ag d (i.keep d);clear d t u v x y;go_wp2_with fail;refine(eF c _ st a ⟨#[45]⟩ (by exact j.alloc _) (by exact q)).mono ?_;rintro e P ⟨rfl,f⟩;obtain⟨k,A⟩:=ag ((j.alloc _).keep f) (((Kp.ofBelow (r:=c.rb) z).alloc _).trans (Kp.ofBelow f));clear f;go_wp2_with fail;refine(eF c _ st a ⟨#[40]⟩ (by exact k) (by exact s)).mono ?_;rintro e Q ⟨rfl,g⟩;obtain⟨l,B⟩:=ag (k.keep g) (A.trans (Kp.ofBelow g));clear g;go_wp2_with fail;refine(cX c _ st a (by exact l)).mono ?_;rintro e R ⟨rfl,h⟩;obtain⟨C,m⟩:=ag (l.keep h) (B.trans (Kp.ofBelow h));clear h;go_wp2_with fail;refine(su c _ st a (by exact C)).mono ?_;rintro e S ⟨D,rfl,E,n,o,p⟩;obtain⟨F,G,H⟩:=aC n o (m.trans p);clear n o p;go_wp2;go_ret;exact⟨_,rfl,Or.inr ⟨_,_,rfl⟩,⟨U G,H⟩,fun _=>⟨1,Or.inl ⟨D,_,rfl,Jt m.size E,F,rfl⟩⟩⟩
theorem A'(c:Cx)(w:World)(st:St)(a:Value)(b:RS c w st a)(I:st.dp<=16)(q:Hid (az c.ts st jH=false))(s:Hid (az c.ts st ju=false))(J:(((ah c.ts st.nx).kind:Int)==3)=false):
  Calls prog 310 #[.pointer (some ⟨c.rb,0,none⟩)] w fun e w'=>jl c w ([dl (bP c.ts st 2) (bP c.ts (aH c.ts (cx c.ts st 2) [⟨#[46]⟩]) 2)],nY c.ts st) e w':=by
 obtain⟨t,u,v,x,y,K⟩:=b.facts;have L:decide (16<(st.dp:Int))=false:=by simp;omega
 have M:=ec;have N:=oQ;have i:=ab b;clear b;go_enter func310,ntmps310;go_wp2_with fail;refine(cX c _ st a (by exact i)).mono ?_;rintro e O ⟨rfl,d⟩;obtain⟨z,j⟩:=ag d (i.keep d);clear d t u v x y;go_wp2_with fail;refine(eF c _ st a ⟨#[45]⟩ (by exact j.alloc _) (by exact q)).mono ?_;rintro e P ⟨rfl,f⟩;obtain⟨k,A⟩:=ag ((j.alloc _).keep f) (((Kp.ofBelow (r:=c.rb) z).alloc _).trans (Kp.ofBelow f));clear f;go_wp2_with fail;refine(eF c _ st a ⟨#[40]⟩ (by exact k) (by exact s)).mono ?_;rintro e Q ⟨rfl,g⟩;obtain⟨l,B⟩:=ag (k.keep g) (A.trans (Kp.ofBelow g));clear g;go_wp2_with fail;refine(cX c _ st a (by exact l)).mono ?_;rintro e R ⟨rfl,h⟩;obtain⟨C,m⟩:=ag (l.keep h) (B.trans (Kp.ofBelow h));clear h;go_wp2_with fail;refine(A7 c _ st a (by exact C)).mono ?_;rintro e S ⟨D,rfl,E,n,o,p⟩;obtain⟨F,G,H⟩:=aC n o (m.trans p);clear n o p;go_wp2;go_ret;exact⟨_,rfl,Or.inr ⟨_,_,rfl⟩,⟨U G,H⟩,fun _=>⟨1,Or.inr (Or.inr (Or.inl ⟨D,_,_,rfl,Jt m.size E,F,rfl⟩))⟩⟩
theorem rh(c:Cx)(g:cO c.ts): ∀(n d:Nat),d+n=17->lS c 310 d (aQ c.ts n)
 |0,d,l=>fun w st a b j=>zD c w st a b (by omega)
 |n+1,d,l=>fun w st a b j=>by
  have k:=rh c g n (d+1) (by omega);have h:st.dp<=16:=by omega
  subst j;unfold aQ;by_cases e:az c.ts st jH=true
  ·rw[Jo e];exact xk c w st a n _ b h k e rfl
  ·rw[Jn e];by_cases f:az c.ts st ju=true
   ·rw[Jo f];exact zE c w st a n _ b h (uU c _ _ (iE g (cm g n) _) (uT c _ _ (cm g n) k)) (ab (by simpa using e)) f rfl
   ·rw[Jn f];by_cases i:(ah c.ts st.nx).kind=3
    ·rw[Jo i];exact A9 c w st a b h (ab (by simpa using e)) (ab (by simpa using f)) (by rw[i];rfl)
    ·rw[Jn i];exact A' c w st a b h (ab (by simpa using e)) (ab (by simpa using f)) (by simp;omega)
def bj(ts:List Tk):St->Rx:=ek ts (aQ ts 17)
theorem dn{ts:List Tk}(a:cO ts):fT ts (bj ts):=jI a (cm a 17)
theorem gO(c:Cx)(a:cO c.ts):lS c 218 0 (bj c.ts):=
 uU c 0 _ (iE a (cm a 17) _) (uT c 0 _ (cm a 17) (rh c a 17 0 rfl))
theorem bf{w w':World}{r a:Nat}{e:TypeId}{size:Nat}{v:Value}{n:Nat}{xs:List Value}(c:w.ownsRow a e size v n xs)(d:Kp r w w')(h:r<a):w'.ownsRow a e size v n xs:=by
 obtain⟨f,b⟩:=c;refine⟨f,?_⟩;rcases b with b|⟨g,cap,cur,hv,hg,hh,q⟩
 ·exact Or.inl b
 ·exact Or.inr ⟨g,cap,cur,hv,hg,by rw[d.block g (aa hh) (by omega)];exact hh,q⟩
theorem dy{w:World}{a:Nat}{e:TypeId}{size:Nat}{v:Value}{n:Nat}{xs:List Value}(b:w.ownsRow a e size v n xs)(hn:0<n): ∃g cap,v=.slice (some ⟨g,0,none⟩) n cap:=by
 rcases b.2 with⟨_,h2⟩|⟨g,cap,cur,hv,_⟩
 ·omega
 ·exact⟨g,cap,hv⟩
theorem RS.grown{c:Cx}{w w':World}{st:St}{i:Value}{d:Nat}{e:TypeId}{size:Nat}{v:Value}{n:Nat}{xs:List Value}(j:RS c w st i)(k:w.ownsRow d e size v n xs)(a:w.grownBy w' v.ownBlock)(l:e≠113)(o:c.rb<d)(p:c.tb<d)(q:c.B<=d):RS c w' st i:=by
 rcases k.2 with⟨rfl,_⟩|⟨g,cap,cur,rfl,hgb,hh,_⟩
 ·exact j.keep ⟨a.os,a.tape,a.output,a.size,fun f h=>a.block f h (by simp[Value.ownBlock])⟩
 ·refine j.kpb (b:=g) ⟨a.os,a.tape,a.output,a.size,fun f h r=>a.block f h (by simp[Value.ownBlock];omega)⟩ (by omega) (by omega) (by omega) (fun s t=>?_);rw[hh];intro m;cases m;exact l rfl
theorem Kp.grown{r f:Nat}{d w w':World}{e:TypeId}{size:Nat}{v:Value}{n:Nat}{xs:List Value}(a:Kp r d w)(h:w.ownsRow f e size v n xs)(b:w.grownBy w' v.ownBlock)(l:d.heap.size<=f):Kp r d w':=by refine⟨b.os.trans a.os,b.tape.trans a.tape,b.output.trans a.output,Jt a.size b.size,fun c g i=>?_⟩;have j:c<w.heap.size:=Js g a.size;refine(b.block c j (fun k=>?_)).trans (a.block c g i);have:=(h.lt c k.symm).1;omega
def jm:List ByteArray:=[⟨#[44]⟩]
def many(ts:List Tk)(a b:Nat)(st:St):St:=if b=a then bM ts st cB else st
def cA{a:Type}(ts:List Tk)(one:St->a×St)(b:Nat):Nat->List a->St->List a×St
 |0,l,st=>(l,st)
 |f+1,l,st=>if az ts st jm then cA ts one b f (l++[(one (many ts b l.length (aD st))).1]) (one (many ts b l.length (aD st))).2 else(l,st)
def dE{a:Type}(ts:List Tk)(one:St->a×St)(b:Nat)(st:St):List a×St:=cA ts one b ts.length [(one st).1] (one st).2
def mN{b:Type}(ts:List Tk)(f:St->b×St):Prop:= ∀a,a.nx<ts.length->cG ts a (f a).2
theorem eh{ts:List Tk}{st:St}(a:st.nx<ts.length)(b c:Nat):cG ts st (many ts b c st):=by
 unfold many;split
 ·exact mJ a _
 ·exact cG.refl a
theorem iF{c:Type}{ts:List Tk}(d:cO ts){one:St->c×St}(e:mN ts one)(b:Nat): ∀(f:Nat) (l:List c) (st:St),st.nx<ts.length->cG ts st (cA ts one b f l st).2
 |0,_,st,a=>cG.refl a
 |f+1,l,st,a=>by
  unfold cA;split
  ·rename_i j
   have g:=bB d a (aW j);have h:=eh g.lt b l.length;have i:=e _ h.lt;exact g.trans (h.trans (i.trans (iF d e b f _ _ i.lt)))
  ·exact cG.refl a
theorem iG{e:Type}{ts:List Tk}(f:cO ts){one:St->e×St}(a:mN ts one)(b:Nat):mN ts (dE ts one b):=fun c d=>(a c d).trans (iF f a b _ _ _ (a c d).lt)
def gP(ts:List Tk)(st:St):Tk×St:=(bP ts st 2,cx ts st 2)
theorem mO{ts:List Tk}(a:cO ts):mN ts (gP ts):=fun _ b=>dx a b (by decide)
def iU(l:List Tk):List Value:=l.flatMap fun a=>[.int .i64 a.place,.string a.text]
theorem xm(l:List Tk)(t:Tk):iU l++[.int .i64 t.place,.string t.text]=iU (l++[t]):=by simp[iU]
structure wF(c:Cx)(w:World)(most:Nat)(d:Nat)(R:List Tk×St)(f:Nat)(v:Value)(wr:World)(l:List Tk)(st':St)(ev':Value):Prop where
 rs:RS c wr st' ev'
 kp:Kp c.rb w wr
 row:wr.ownsRow w.heap.size 240 2 v l.length (iU l)
 pos:0<l.length
 few:l.length<=st'.nx+1
 eq:R=cA c.ts (gP c.ts) most f l st'
 fuel:c.ts.length<=f+st'.nx
 dp:st'.dp=d
theorem Ar{c:Cx}{w wr i j e f:World}{a d gk:Nat}{R:List Tk×St}{v v':Value}{l:List Tk}{bR st':St}{u x m:Value}{t5:Tk}(b:wF c w a d R (gk+1) v wr l st' x)(n:az c.ts st' jm=true)(o:cO c.ts)(y:c.rb<w.heap.size)(p:RS c w bR u)
  (z:Kp c.rb wr i) (A:Kp c.rb i j) (B:RS c e (cx c.ts (many c.ts a l.length (aD st')) 2) m) (C:Kp c.rb j e) (D:bP c.ts (many c.ts a l.length (aD st')) 2=t5)
  (q:e.ownsRow w.heap.size 240 2 v l.length (iU l)) (E:f.ownsRow w.heap.size 240 2 v' (l.length+1) (iU l++[.int .i64 t5.place,.string t5.text]))
  (r:(e.alloc (.cells #[.int .i64 t5.place,.string t5.text] 240)).grownBy f v.ownBlock):
  wF c w a d R gk v' f (l++[t5]) (cx c.ts (many c.ts a l.length (aD st')) 2) m:=by
 have s:=bB o b.rs.nx (aW n);have g:=eh s.lt a l.length;have t:=dx o g.lt (k:=2) (by decide);have F:c.tb<w.heap.size:=by obtain⟨H,G,_⟩:=p.tokens;exact aa G
 have I:st'.nx+1<=(cx c.ts (many c.ts a l.length (aD st')) 2).nx:=Jt g.nx t.nx;refine⟨(B.alloc _).grown (q.alloc _) r (by decide) y F p.env.size,?_,?_,by simp,?_,?_,?_,?_⟩
 ·exact Kp.grown ((((b.kp.trans z).trans A).trans C).alloc _) (q.alloc _) r (Ji _)
 ·rw[<-xm,Jk];exact E
 ·have:=b.few;rw[Jk];simp;omega
 ·have h:=b.eq;unfold cA at h;rw[Jo n]at h;rw[h,<-D];rfl
 ·have:=b.fuel;omega
 ·exact(t.dp.trans (g.dp.trans s.dp)).trans b.dp
theorem Hm:(prog.info? 240).map (fun i=>(i.zero,i.size,i.bytes))=some (some (.agg #[.int .i64 0,.string ⟨#[]⟩]),2,24):=by kernel_rfl
theorem Cu(c:Cx)(w:World)(st:St)(T:Value)(b:Nat)(R:List Tk×St)(j:RS c w st T)(_hm:b<=1001)(aA:Hid (R=dE c.ts (gP c.ts) b st)):
  Calls prog 150 #[.pointer (some ⟨c.rb,0,none⟩),.int .i64 b,.func (.func 148) #[.pointer (some ⟨c.rb,0,none⟩)] #[]] w fun e w'=> ∃v,e=.returned v/\w'.ownsRow w.heap.size 240 2 v R.1.length (iU R.1)/\0<R.1.length/\eO c w R.2 w':=by
 obtain⟨V,W,X⟩:=Jq.1 Hm;simp only[JB]at X;obtain⟨Y,Z,ac⟩:=X;obtain⟨ad,ae,aj,ak⟩:=aP W Y Z ac;have D:=ab j.last;have a2:=j.len;have g:=aa j.reader;have z:=ab j;clear W Y Z ac j;go_enter func150,ntmps150;go_wp2_with fail;refine(gN c _ st T (by exact z)).mono ?_;rintro e E ⟨rfl,⟨aI,al⟩,F⟩
 have an:Hid (wF c w b st.dp R c.ts.length (.slice (some ⟨E.heap.size,0,none⟩) 1 1) (E.alloc (.cells #[.int .i64 (bP c.ts st 2).place,.string (bP c.ts st 2).text] 240)) [bP c.ts st 2] (cx c.ts st 2) aI):=
  ⟨al.alloc _,F.alloc _,LL E #[.int .i64 (bP c.ts st 2).place,.string (bP c.ts st 2).text] 1 F.size (by unfold maxLen;omega) rfl,by simp,by simp,by rw[U aA];rfl,by omega,(mO D st z.nx).dp⟩
 clear al F;generalize bP c.ts st 2=a3 at*;go_wp2_with fail
 go_loopg [7] c.ts.length (fun aJ aL wr=> ∃f d k,wF c w b st.dp R aJ aL wr f d k)
 case atStart=>exact⟨_,_,_,an⟩
 case round=>
  obtain⟨f,d,k,hrel⟩:=hrel;have a:=ab hrel;clear hrel an
  match gk,a with
  |0,a=>exact absurd a.fuel (by have:=a.rs.nx;omega)
  |gk+1,a=>
  cases A:az c.ts d jm with
  |false=>have i:=ab A;clear A;go_wp2_with fail;refine(eF c _ d k ⟨#[44]⟩ (by exact a.rs) (by exact i)).mono ?_;rintro e l ⟨rfl,ao⟩;have G:=ab ao;clear ao;go_wp2;go_ret;have H:=a.eq;unfold cA at H;rw[Jn (by rw[U i];decide)]at H;subst H;exact⟨_,rfl,fQ a.row G,a.pos,⟨k,a.rs.keep G⟩,a.kp.trans (Kp.ofBelow G)⟩
  |true=>
   have i:=ab A;clear A;obtain⟨a4,a5,aN⟩:=dy a.row a.pos;subst aN;have a9:=a.few;have a':=a.rs.nx;go_wp2_with fail;refine(fu c _ d k ⟨#[44]⟩ (by exact a.rs) (by rw[JA];rfl) (by exact i)).mono ?_;rintro e l ⟨rfl,⟨ap,ar⟩,au⟩;obtain⟨I,m⟩:=ag ar au;clear ar au;have ba:=I.env.cell 4 (by decide);have av:=ab (bf a.row m g);by_cases B:f.length=b
   ·have aR:(((f.length:Nat):Int)==(b:Int))=true:=by simp;omega
    have J:=ab B;clear B;go_wp2_with fail;refine(iC c _ (aD d) ap cB (by exact I)).mono ?_;rintro e C ⟨rfl,⟨n,ax⟩,K⟩;have L:Hid (RS c C (many c.ts b f.length (aD d)) n):=by unfold many;rw[Jo (U J)];exact ax
    obtain⟨o,M⟩:=ag K (bf av K g);clear ax K;go_wp2_with fail;refine(gN c _ _ n (by exact L)).mono ?_;rintro e p ⟨rfl,⟨N,q⟩,h⟩;obtain⟨O,r,s⟩:=aC q h (bf (bf M h g) (Kp.refl c.rb p) g);clear q h;generalize t:bP c.ts (many c.ts b f.length (aD d)) 2=t5 at*;have P:=ab t;clear t;go_wp2_with (at_builtin;refine Kd _ rfl _ _ 241 rfl w.heap.size 240 V (.agg #[.int .i64 0,.string ⟨#[]⟩]) 2 24 underlying241 ad ae aj ak rfl (by decide) _ _ _ rfl (s.alloc _) ⟨p.heap.size,0,none⟩ 1 1 [.int .i64 t5.place,.string t5.text] rfl rfl ?c1 ?c2 ?c3 ?c4 ?c5 ?_)
    case c1=>exact cQ rfl
    case c2=>intro aT u;simp only[JG,JO,Kg]at u;rcases u with rfl|rfl<;>rfl
    case c3=>unfold maxLen;omega
    case c4=>omega
    case c5=>have:=a.kp.size;have:=m.size;have:=o.size;have:=r.size;simp;omega
    intro aU aV x y _;obtain⟨Q,S⟩:=ag x y;clear x y;go_wp2;go_roundg gk
    case measure=>omega
    case rel=>exact⟨_,_,N,Ar a i D g z m o O r P s Q S⟩
   ·have aR:(((f.length:Nat):Int)==(b:Int))=false:=by simp;omega
    have J:=ab B;clear B
    obtain⟨C,a0⟩: ∃C,C=l:=⟨_,rfl⟩
    obtain⟨n,ay⟩: ∃a1,a1=ap:=⟨_,rfl⟩
    have L:Hid (RS c l (many c.ts b f.length (aD d)) n):=by unfold many;rw[Jn (U J),ay];exact I
    have o:Hid (Kp c.rb l l):=Kp.refl _ _;have M:=av;clear a0 ay;go_wp2_with fail;refine(gN c _ _ n (by exact L)).mono ?_;rintro e p ⟨rfl,⟨N,q⟩,h⟩;obtain⟨O,r,s⟩:=aC q h (bf (bf M h g) (Kp.refl c.rb p) g);clear q h;generalize t:bP c.ts (many c.ts b f.length (aD d)) 2=t5 at*;have P:=ab t;clear t;go_wp2_with (at_builtin;refine Kd _ rfl _ _ 241 rfl w.heap.size 240 V (.agg #[.int .i64 0,.string ⟨#[]⟩]) 2 24 underlying241 ad ae aj ak rfl (by decide) _ _ _ rfl (s.alloc _) ⟨p.heap.size,0,none⟩ 1 1 [.int .i64 t5.place,.string t5.text] rfl rfl ?c1 ?c2 ?c3 ?c4 ?c5 ?_)
    case c1=>exact cQ rfl
    case c2=>intro aT u;simp only[JG,JO,Kg]at u;rcases u with rfl|rfl<;>rfl
    case c3=>unfold maxLen;omega
    case c4=>omega
    case c5=>have:=a.kp.size;have:=m.size;have:=o.size;have:=r.size;simp;omega
    intro aU aV x y _;obtain⟨Q,S⟩:=ag x y;clear x y;go_wp2;go_roundg gk
    case measure=>omega
    case rel=>exact⟨_,_,N,Ar a i D g z m o O r P s Q S⟩
structure wG(c:Cx)(w:World)(most:Nat)(d:Nat)(R:List (List Nd)×St)(f:Nat)(v:Value)(wr:World)(l:List (List Nd))(vs:List Value)(st':St)(ev':Value):Prop where
 rs:RS c wr st' ev'
 kp:Kp c.rb w wr
 row:wr.ownsRow w.heap.size 248 1 v l.length vs
 lenv:vs.length=l.length
 ok:st'.er=none-> ∀(i:Nat) (x:Value) (k:List Nd),vs[i]? =some x->l[i]? =some k->eD wr w.heap.size x k
 pos:0<l.length
 few:l.length<=st'.nx+1
 eq:R=cA c.ts (bj c.ts) most f l st'
 fuel:c.ts.length<=f+st'.nx
 dp:st'.dp=d
theorem a7.grown{lo f:Nat}{w w':World}{e:TypeId}{size:Nat}{v:Value}{n:Nat}{xs:List Value}(h:w.ownsRow f e size v n xs)(i:w.grownBy w' v.ownBlock)(j:ki e=false):a7 lo w w':=by
 intro b l m _ a c;refine i.block b (aa a) (fun d=>?_);rcases h.2 with⟨rfl,_⟩|⟨g,cap,cur,rfl,_,hh,_⟩
 ·cases d
 ·have k:b=g:=by simpa [Value.ownBlock]using d
  subst k;rw[hh]at a;cases a;rw[j]at c;cases c
theorem As{c:Cx}{w wr y o f k:World}{b d gk:Nat}{R:List (List Nd)×St}{v v':Value}{l:List (List Nd)}{g:List Value}{bR st':St}{G H z:Value}{m:Value}(a:wG c w b d R (gk+1) v wr l g st' H)(A:az c.ts st' jm=true)(B:cO c.ts)(I:c.rb<w.heap.size)(C:RS c w bR G)
  (p:Kp c.rb wr y) (q:Kp c.rb y o) (J:RS c f (bj c.ts (many c.ts b l.length (aD st'))).2 z) (D:Kp c.rb o f) (hex:(bj c.ts (many c.ts b l.length (aD st'))).2.er=none->eD f o.heap.size m (bj c.ts (many c.ts b l.length (aD st'))).1)
  (r:f.ownsRow w.heap.size 248 1 v l.length g) (K:k.ownsRow w.heap.size 248 1 v' (l.length+1) (g++[m]))
  (s:(f.alloc (.cells #[m] 248)).grownBy k v.ownBlock):
  wG c w b d R gk v' k (l++[(bj c.ts (many c.ts b l.length (aD st'))).1]) (g++[m]) (bj c.ts (many c.ts b l.length (aD st'))).2 z:=by
 have t:=bB B a.rs.nx (aW A);have n:=eh t.lt b l.length;have u:=dn B _ n.lt;have L:c.tb<w.heap.size:=by obtain⟨S,M,_⟩:=C.tokens;exact aa M
 have T:st'.nx+1<=(bj c.ts (many c.ts b l.length (aD st'))).2.nx:=Jt n.nx u.nx;have N:Kp c.rb w f:=((a.kp.trans p).trans q).trans D;have E:a7 w.heap.size f k:=(a7.ofBelow ((Jj _ _).alloc (Ji _) _)).trans (a7.grown (r.alloc _) s rfl);refine⟨(J.alloc _).grown (r.alloc _) s (by decide) I L C.env.size,?_,?_,by simp[a.lenv],fun F i O P e h=>?_,by simp,?_,?_,?_,?_⟩
 ·exact Kp.grown (N.alloc _) (r.alloc _) s (Ji _)
 ·rw[Jk];exact K
 ·rcases J' i g.length with hi|hi
  ·rw[Jz hi]at e;rw[Jz (by rw[<-a.lenv];exact hi)]at h;have Q:=a.ok (t.er (n.er (u.er F))) i O P e h;exact(Q.keep (Ji _) (a.rs.nodes ((p.trans q).trans D))).keep (Ji _) E
  ·rw[Jw hi]at e;rw[Jw (by rw[<-a.lenv];exact hi),show i-l.length=i-g.length from by rw[a.lenv]]at h
   match hj:i-g.length,e,h with
   |0,e,h=>simp only[List.getElem?_cons_zero,Ke]at e h;subst e;subst h;exact((hex F).keep ((a.kp.trans p).trans q).size (a7.ofBelow (Jj _ _))).keep (Ji _) E
   |j+1,e,_=>simp at e
 ·have:=a.few;rw[Jk];simp;omega
 ·have x:=a.eq;unfold cA at x;rw[Jo A]at x;exact x
 ·have:=a.fuel;omega
 ·exact(u.dp.trans (n.dp.trans t.dp)).trans a.dp
theorem Hn:(prog.info? 248).map (fun i=>(i.zero,i.size,i.bytes))=some (some .nilIface,1,16):=by kernel_rfl
theorem Cv(c:Cx)(w:World)(st:St)(ar:Value)(b:Nat)(R:List (List Nd)×St)(q:RS c w st ar)(O:st.dp=0)(_hm:b<=1001)(a':Hid (R=dE c.ts (bj c.ts) b st)):
  Calls prog 309 #[.pointer (some ⟨c.rb,0,none⟩),.int .i64 b,.func (.func 218) #[.pointer (some ⟨c.rb,0,none⟩)] #[]] w fun e w'=> ∃v j,e=.returned v/\w'.ownsRow w.heap.size 248 1 v R.1.length j/\j.length=R.1.length/\0<R.1.length/\eO c w R.2 w'/\(R.2.er=none-> ∀(i:Nat) (x:Value) (k:List Nd),j[i]? =some x->R.1[i]? =some k->eD w' w.heap.size x k):=by
 obtain⟨au,av,ax⟩:=Jq.1 Hn;simp only[JB]at ax;obtain⟨ay,aA,aI⟩:=ax;obtain⟨aJ,aL,aN,aR⟩:=aP av ay aA aI;have o:=ab q.last;have bt:=q.len;have f:=aa q.reader;have J:=ab q;clear av ay aA aI q;go_enter func309,ntmps309;go_wp2_with fail;refine(gO c o _ st ar (by exact J) O).mono ?_;rintro e P ⟨Q,rfl,ba,⟨⟨bb,aT⟩,S⟩,aU⟩;have bc:=ba.cells;unfold Value.cells at bc
 have aV:Hid (wG c w b st.dp R c.ts.length (.slice (some ⟨P.heap.size,0,none⟩) 1 1) (P.alloc (.cells #[Q] 248)) [(bj c.ts st).1] [Q] (bj c.ts st).2 bb):=
  ⟨aT.alloc _,S.alloc _,LL P #[Q] 1 S.size (by unfold maxLen;omega) rfl,rfl,fun T i x k g l=>by
   match i,g,l with
   |0,g,l=>simp only[List.getElem?_cons_zero,Ke]at g l;subst g;subst l;exact(aU T).keep (Ji _) (a7.ofBelow ((Jj _ _).alloc (Ji _) _))
   |i+1,g,l=>simp at g,by simp,by simp,by rw[U a'];rfl,by omega,(dn o st J.nx).dp⟩
 clear aT S aU;go_wp2_with fail
 go_loopg [7] c.ts.length (fun be bg wr=> ∃d j h r,wG c w b st.dp R be bg wr d j h r)
 case atStart=>exact⟨_,_,_,_,aV⟩
 case round=>
  obtain⟨d,j,h,r,hrel⟩:=hrel;have a:=ab hrel;clear hrel aV
  match gk,a with
  |0,a=>exact absurd a.fuel (by have:=a.rs.nx;omega)
  |gk+1,a=>
  cases K:az c.ts h jm with
  |false=>have p:=ab K;clear K;go_wp2_with fail;refine(eF c _ h r ⟨#[44]⟩ (by exact a.rs) (by exact p)).mono ?_;rintro e s ⟨rfl,a0⟩;have L:=ab a0;clear a0;go_wp2;go_ret;have V:=a.eq;unfold cA at V;rw[Jn (by rw[U p];decide)]at V;subst V;exact⟨_,j,rfl,fQ a.row L,a.lenv,a.pos,⟨⟨r,a.rs.keep L⟩,a.kp.trans (Kp.ofBelow L)⟩,fun T i x k g l=>(a.ok T i x k g l).keep (Ji _) (a7.ofBelow L)⟩
  |true=>
   have p:=ab K;clear K;obtain⟨bu,bv,bk⟩:=dy a.row a.pos;subst bk;have bx:=a.few;have bz:=a.rs.nx;go_wp2_with fail;refine(fu c _ h r ⟨#[44]⟩ (by exact a.rs) (by rw[JA];rfl) (by exact p)).mono ?_;rintro e s ⟨rfl,⟨a1,a2⟩,a3⟩;obtain⟨t,u⟩:=ag a2 a3;clear a2 a3;have bA:=t.env.cell 4 (by decide);have a4:=ab (bf a.row u f);by_cases M:d.length=b
   ·have bl:(((d.length:Nat):Int)==(b:Int))=true:=by simp;omega
    have W:=ab M;clear M;go_wp2_with fail;refine(iC c _ (aD h) a1 cB (by exact t)).mono ?_;rintro e N ⟨rfl,⟨y,a5⟩,X⟩;have Y:Hid (RS c N (many c.ts b d.length (aD h)) y):=by unfold many;rw[Jo (U W)];exact a5
    obtain⟨A,Z⟩:=ag X (bf a4 X f);clear a5 X;go_wp2_with fail;refine(gO c o _ _ y (by exact Y) (by exact((eh t.nx b d.length).dp.trans a.dp).trans O)).mono ?_;rintro e B ⟨ac,rfl,m,⟨⟨ad,C⟩,n⟩,D⟩;have ae:=m.cells;unfold Value.cells at ae;obtain⟨aj,ak⟩:=ag m D;clear m D;obtain⟨al,E,F⟩:=aC C n (bf (bf Z n f) (Kp.refl c.rb B) f);clear C n;go_wp2_with (at_builtin;refine Kd _ rfl _ _ 385 rfl w.heap.size 248 au (.nilIface) 1 16 underlying385 aJ aL aN aR rfl (by decide) _ _ _ rfl (F.alloc _) ⟨B.heap.size,0,none⟩ 1 1 [ac] rfl rfl ?c1 ?c2 ?c3 ?c4 ?c5 ?_)
    case c1=>exact cQ rfl
    case c2=>intro bn G;simp only[JG,JO,Kg]at G;subst G;rcases U aj with rfl|⟨an,z,rfl⟩<;>rfl
    case c3=>unfold maxLen;omega
    case c4=>omega
    case c5=>have:=a.kp.size;have:=u.size;have:=A.size;have:=E.size;simp;omega
    intro bq br H I _;obtain⟨ao,ap⟩:=ag H I;clear H I;go_wp2;go_roundg gk
    case measure=>omega
    case rel=>exact⟨_,_,_,ad,As a p o f J u A al E ak F ao ap⟩
   ·have bl:(((d.length:Nat):Int)==(b:Int))=false:=by simp;omega
    have W:=ab M;clear M
    obtain⟨N,bs⟩: ∃N,N=s:=⟨_,rfl⟩
    obtain⟨y,a9⟩: ∃an,an=a1:=⟨_,rfl⟩
    have Y:Hid (RS c s (many c.ts b d.length (aD h)) y):=by unfold many;rw[Jn (U W),a9];exact t
    have A:Hid (Kp c.rb s s):=Kp.refl _ _;have Z:=a4;clear bs a9;go_wp2_with fail;refine(gO c o _ _ y (by exact Y) (by exact((eh t.nx b d.length).dp.trans a.dp).trans O)).mono ?_;rintro e B ⟨ac,rfl,m,⟨⟨ad,C⟩,n⟩,D⟩;have ae:=m.cells;unfold Value.cells at ae;obtain⟨aj,ak⟩:=ag m D;clear m D;obtain⟨al,E,F⟩:=aC C n (bf (bf Z n f) (Kp.refl c.rb B) f);clear C n;go_wp2_with (at_builtin;refine Kd _ rfl _ _ 385 rfl w.heap.size 248 au (.nilIface) 1 16 underlying385 aJ aL aN aR rfl (by decide) _ _ _ rfl (F.alloc _) ⟨B.heap.size,0,none⟩ 1 1 [ac] rfl rfl ?c1 ?c2 ?c3 ?c4 ?c5 ?_)
    case c1=>exact cQ rfl
    case c2=>intro bn G;simp only[JG,JO,Kg]at G;subst G;rcases U aj with rfl|⟨an,z,rfl⟩<;>rfl
    case c3=>unfold maxLen;omega
    case c4=>omega
    case c5=>have:=a.kp.size;have:=u.size;have:=A.size;have:=E.size;simp;omega
    intro bq br H I _;obtain⟨ao,ap⟩:=ag H I;clear H I;go_wp2;go_roundg gk
    case measure=>omega
    case rel=>exact⟨_,_,_,ad,As a p o f J u A al E ak F ao ap⟩
def ig(ts:List Tk)(st:St)(x:ByteArray):List (List Nd)×St:=if az ts st [x]then dE ts (bj ts) 1000 (aH ts (aD st) [⟨#[98,121]⟩])else([],st)
theorem lf{ts:List Tk}(a:cO ts){st:St}(b:st.nx<ts.length)(x:ByteArray):cG ts st (ig ts st x).2:=by
 unfold ig;split
 ·rename_i e
  have c:=bB a b (aW e);have d:=aM a c.lt [⟨#[98,121]⟩];exact c.trans (d.trans (iG a (dn a) 1000 _ d.lt))
 ·exact cG.refl b
theorem dN{w:World}{b c:Nat}{e:TypeId}{size:Nat}{v:Value}{n:Nat}{xs:List Value}(d:w.ownsRow b e size v n xs)(h:c<=b):w.ownsRow c e size v n xs:=by
 obtain⟨f,a⟩:=d;refine⟨f,?_⟩;rcases a with a|⟨g,cap,cur,hv,hg,q⟩
 ·exact Or.inl a
 ·exact Or.inr ⟨g,cap,cur,hv,by omega,q⟩
def uk(w:World)(lo:Nat)(v:Value)(l:List (List Nd)):Prop:= ∃a:List Value,w.ownsRow lo 248 1 v l.length a/\a.length=l.length/\ ∀(b:Nat) (c:Value) (d:List Nd),a[b]? =some c->l[b]? =some d->eD w lo c d
theorem sx(c:Cx)(w:World)(st:St)(h:Value)(x:ByteArray)(R:List (List Nd)×St)(i:RS c w st h)(A:st.dp=0)(b:(x.toList== [])=false)(f:Hid (R=ig c.ts st x)):
  Calls prog 272 #[.pointer (some ⟨c.rb,0,none⟩),.string x] w fun e w'=> ∃v a B cap,e=.returned v/\v=.slice a B cap/\eO c w R.2 w'/\(R.2.er=none->uk w' w.heap.size v R.1):=by
 have C:=ab i.last;have j:=ab i;clear i;unfold ig at f
 cases g:az c.ts st [x]with
 |false=>
  have d:=ab g;clear g;go_enter func272,ntmps272;go_wp2_with fail;refine(eF c _ st h x (by exact j) (by exact d)).mono ?_;rintro e m ⟨rfl,n⟩;have D:=ab n;clear n;go_wp2;go_ret;have E:R=([],st):=by rw[U f,U d];rfl
  subst E;exact⟨.slice none 0 0,none,0,0,rfl,rfl,eO.same j D,fun _=>⟨[],JF _ _ _ _,rfl,fun o x p b=>by simp at b⟩⟩
 |true=>have d:=ab g;clear g;go_enter func272,ntmps272;go_wp2_with fail;refine(fu c _ st h x (by exact j) b (by exact d)).mono ?_;rintro e m ⟨rfl,⟨F,q⟩,r⟩;obtain⟨s,G⟩:=ag q r;clear q r;go_wp2_with fail;refine(dv c _ (aD st) F m.heap.size [⟨#[98,121]⟩] (by exact s.alloc _) (by exact bo rfl (fun H I=>by match H,I with|0,_=>rfl)) (by simp) (dt (by decide))).mono ?_;rintro e Z ⟨rfl,⟨J,t⟩,u⟩;obtain⟨K,k⟩:=ag t ((G.alloc _).trans u);clear t u;have L:(aH c.ts (aD st) [⟨#[98,121]⟩]).dp=0:=((aM C s.nx _).dp).trans A;go_wp2_with fail;refine(Cv c _ _ J 1000 R (by exact K) L (by decide) (by rw[U d]at f;exact f)).mono ?_;rintro e ac ⟨v,M,rfl,l,N,O,⟨⟨P,y⟩,z⟩,hex⟩;obtain⟨ad,cap,Q⟩:=dy l O;obtain⟨S,T,V,W⟩:=aP l hex y (k.trans z);subst Q;clear l hex y z;go_wp2;go_ret;refine⟨_,_,_,_,rfl,rfl,⟨⟨P,V⟩,W⟩,fun X=>⟨M,?_,N,fun o x p b Y=>(U T X o x p b Y).keep k.size (a7.ofBelow (Jj _ _))⟩⟩;exact dN S k.size
structure oR where
 place:Nat
 call:ByteArray
 of:Option (List Nd)
 part:List (List Nd)
 ord:List (List Nd)
 rows:Option Tk
def fV(a:ByteArray):Bool:= !(a.toList== [114,111,119,95,110,117,109,98,101,114])&& !(a.toList== [99,111,117,110,116])
def mP(ts:List Tk)(st:St)(a:ByteArray):Option (List Nd)×St:=if fV a then(some (bj ts (aH ts st [⟨#[40]⟩])).1,(bj ts (aH ts st [⟨#[40]⟩])).2)else(none,aH ts st [⟨#[40]⟩])
def km(ts:List Tk)(st:St):St:=aH ts (aH ts (aH ts st [⟨#[41]⟩]) [⟨#[111,118,101,114]⟩]) [⟨#[40]⟩]
def oS(ts:List Tk)(st:St):List (List Nd)×St:=ig ts st ⟨#[112,97,114,116,105,116,105,111,110]⟩
def ul(ts:List Tk)(st:St):List (List Nd)×St:=ig ts st ⟨#[111,114,100,101,114]⟩
def gp(ts:List Tk)(st:St):Option Tk×St:=if az ts st [⟨#[114,111,119,115]⟩]then(some (bP ts (aD st) 3),aH ts (cx ts (aD st) 3) [⟨#[112,114,101,99,101,100,105,110,103]⟩])else(none,st)
def lT(ts:List Tk)(st:St)(p:Nat)(a:ByteArray):oR×St:=
 let o:=mP ts st a
 let b:=oS ts (km ts o.2)
 let c:=ul ts b.2
 let d:=gp ts c.2
 (⟨p,a,o.1,b.1,c.1,d.1⟩,aH ts d.2 [⟨#[41]⟩])
theorem og{ts:List Tk}(b:cO ts){st:St}(c:st.nx<ts.length)(d:ByteArray):cG ts st (mP ts st d).2:=by
 have a:=aM b c [⟨#[40]⟩];unfold mP;split
 ·exact a.trans (dn b _ a.lt)
 ·exact a
theorem pQ{ts:List Tk}(a:cO ts){st:St}(d:st.nx<ts.length):cG ts st (km ts st):=by have b:=aM a d [⟨#[41]⟩];have c:=aM a b.lt [⟨#[111,118,101,114]⟩];exact b.trans (c.trans (aM a c.lt _))
theorem uV{ts:List Tk}(a:cO ts){st:St}(b:st.nx<ts.length):cG ts st (gp ts st).2:=by
 unfold gp;split
 ·rename_i e
  have c:=bB a b (aW e);have d:=dx a c.lt (k:=3) (by decide);exact c.trans (d.trans (aM a d.lt _))
 ·exact cG.refl b
theorem Gg{ts:List Tk}(a:cO ts){st:St}(h:st.nx<ts.length)(p:Nat)(b:ByteArray):cG ts st (lT ts st p b).2:=by have c:=og a h b;have d:=pQ a c.lt;have e:=lf a d.lt ⟨#[112,97,114,116,105,116,105,111,110]⟩;have f:=lf a e.lt ⟨#[111,114,100,101,114]⟩;have g:=uV a f.lt;exact c.trans (d.trans (e.trans (f.trans (g.trans (aM a g.lt _)))))
def um(w:World)(lo:Nat)(v:Value):Option (List Nd)->Prop
 |none=>v=.nilIface
 |some l=>eD w lo v l
def sy(w:World)(lo:Nat)(v:Value):Option Tk->Prop
 |none=>v=.pointer none
 |some t=> ∃b,v=.pointer (some ⟨b,0,none⟩)/\lo<=b/\w.heap[b]? =some (.cells #[.int .i64 t.place,.int .i64 t.value,.string t.text] 391 (0,0))
def qD(w:World)(lo:Nat)(v:Value)(x:oR):Prop:= ∃a b c d e,v=.pointer (some ⟨a,0,none⟩)/\lo<=a/\w.heap[a]? =some (.cells #[.int .i64 x.place,.string x.call,b,c,d,e] 388 (0,0))/\um w lo b x.of/\uk w lo c x.part/\uk w lo d x.ord/\sy w lo e x.rows
def dL(t:TypeId):Bool:=ki t||t==248||t==388
def aw(S:TypeId->Bool)(lo:Nat)(w w':World):Prop:= ∀(a:Nat) (c:Array Value) (b:TypeId),lo<=a->w.heap[a]? =some (.cells c b (0,0))->S b=true->w'.heap[a]? =w.heap[a]?
theorem aw.mono{S S':TypeId->Bool}{lo a:Nat}{w w':World}(b:aw S lo w w')(c: ∀t,S' t=true->S t=true)(d:lo<=a):aw S' a w w':=fun e f t g h i=>b e f t (Jt d g) h (c t i)
theorem aw.ofBelow{S:TypeId->Bool}{lo:Nat}{w w':World}(a:Below w.heap.size w w'):aw S lo w w':=fun b _ _ _ c _=>a.block b (aa c)
theorem aw.ofKp{S:TypeId->Bool}{lo r:Nat}{w w':World}(d:Kp r w w')(a:r<lo∨ ∀(cs:Array Value) (t:TypeId),w.heap[r]? =some (.cells cs t (0,0))->S t=false):aw S lo w w':=fun e cs t g b c=>
 d.block e (aa b) (fun f=>by
  subst f;rcases a with a|a
  ·omega
  ·rw[a cs t b]at c;cases c)
theorem aw.trans{S:TypeId->Bool}{lo:Nat}{a b c:World}(l:aw S lo a b)(k:aw S lo b c):aw S lo a c:=fun d e f g h i=>by have j:=l d e f g h i;exact(k d e f g (j.trans h) i).trans j
theorem RS.keeps{c:Cx}{S:TypeId->Bool}{lo:Nat}{w w':World}{st:St}{a:Value}(b:RS c w st a)(d:Kp c.rb w w')(f:S 167=false):aw S lo w w':=
 aw.ofKp d (Or.inr fun cs t e=>by rw[b.reader]at e;cases e;exact f)
theorem aw.node{lo:Nat}{w w':World}(a:aw dL lo w w'):a7 lo w w':=fun b c d e f g=>a b c d e f (by unfold dL;rw[g];rfl)
theorem bm{S:TypeId->Bool}{w w':World}{lo:Nat}{e:TypeId}{size:Nat}{v:Value}{n:Nat}{xs:List Value}(b:w.ownsRow lo e size v n xs)(c:aw S lo w w')(d:S e=true):w'.ownsRow lo e size v n xs:=by
 obtain⟨f,a⟩:=b;refine⟨f,?_⟩;rcases a with a|⟨g,cap,cur,hv,hg,hh,q⟩
 ·exact Or.inl a
 ·exact Or.inr ⟨g,cap,cur,hv,hg,by rw[c g _ _ hg hh d];exact hh,q⟩
theorem uk.keep{w w':World}{lo a:Nat}{v:Value}{l:List (List Nd)}(d:uk w lo v l)(b:a<=lo)(c:aw dL lo w w'):uk w' a v l:=by obtain⟨e,f,g,h⟩:=d;exact⟨e,dN (bm f c rfl) b,g,fun i j k m n=>(h i j k m n).keep b c.node⟩
theorem um.keep{w w':World}{lo b:Nat}{v:Value}{o:Option (List Nd)}(a:um w lo v o)(c:b<=lo)(d:aw dL lo w w'):um w' b v o:=by
 match o,a with
 |none,a=>exact a
 |some e,a=>exact eD.keep a c d.node
theorem sy.keep{w w':World}{lo b:Nat}{v:Value}{o:Option Tk}(a:sy w lo v o)(f:b<=lo)(g:aw dL lo w w'):sy w' b v o:=by
 match o,a with
 |none,a=>exact a
 |some i,⟨c,h,d,e⟩=>exact⟨c,h,Jt f d,(g c _ _ d e rfl).trans e⟩
theorem qD.keep{w w':World}{lo c:Nat}{v:Value}{x:oR}(g:qD w lo v x)(a:c<=lo)(b:aw dL lo w w'):qD w' c v x:=by obtain⟨d,h,i,j,k,l,e,f,m,n,o,p⟩:=g;exact⟨d,h,i,j,k,l,Jt a e,(b d _ _ e f rfl).trans f,m.keep a b,n.keep a b,o.keep a b,p.keep a b⟩
theorem a8{w:World}{a:Nat}{e:TypeId}{size:Nat}{v:Value}{n:Nat}{xs:List Value}(b:w.ownsRow a e size v n xs): ∃c cap,v=.slice c n cap:=by
 rcases b.2 with⟨hv,h0⟩|⟨g,cap,cur,hv,_⟩
 ·exact⟨none,0,by rw[hv,h0]⟩
 ·exact⟨_,_,hv⟩
abbrev TT:=ByteArray×Bool
def tx(s:ByteArray):TT:=(s,false)
def eP:List (List TT)->List TT
 | []=>[]
 | [a]=>a
 |a::b::r=>a++tx ⟨#[44]⟩::eP (b::r)
theorem rj: ∀(l:List (List TT)) (a:List TT),eP (l++[a])=eP l++(if l=[]then []else [tx ⟨#[44]⟩])++a
 | [],a=>by simp[eP]
 | [x],a=>by simp[eP]
 |x::c::r,a=>by have b:=rj (c::r) a;simp only[KS]at b⊢;rw[eP,b,eP];simp
def sA(n:Nd)(S:List (List TT)):List (List TT):=match n.tag with
 |0=>[tx n.s1]::S
 |1=>match S with
  |a::b=>((⟨#[45]⟩,true)::a)::b
  | []=>[]
 |2=>[tx n.s1,tx ⟨#[46]⟩,tx n.s2]::S
 |3=>match S with
  |a::b=>(tx ⟨#[40]⟩::(a++[tx ⟨#[41]⟩]))::b
  | []=>[]
 |_=>match S with
  |a::c::b=>(a++tx n.s1::c)::b
  |_=>[]
def sB(l:List Nd)(S:List (List TT)):List (List TT):=l.foldr sA S
def jd(l:List Nd):List TT:=(sB l []).headD []
def oh(l:List Nd):Prop:= ∀a,sB l a=jd l::a
theorem Ba(k m:List Nd)(S:List (List TT)):sB (k++m) S=sB k (sB m S):=List.foldr_append
theorem sC{l:List Nd}{t:List TT}(a: ∀S,sB l S=t::S):oh l/\jd l=t:=by
 have b:jd l=t:=by unfold jd;rw[a];rfl
 exact⟨fun S=>by rw[a,b],b⟩
theorem Cw(t:Tk):oh [mh t]/\jd [mh t]=[tx t.text]:=sC fun _=>rfl
theorem Cy(t u:Tk):oh [dl t u]/\jd [dl t u]=[tx t.text,tx ⟨#[46]⟩,tx u.text]:=sC fun _=>rfl
theorem EC{k:List Nd}(b:oh k)(p:Nat):oh (gv p::k)/\jd (gv p::k)=(⟨#[45]⟩,true)::jd k:=sC fun a=>by
 show sA (gv p) (sB k a)=_
 rw[b a];rfl
theorem Iz{k:List Nd}(b:oh k)(p:Nat):oh (mH p::k)/\jd (mH p::k)=tx ⟨#[40]⟩::(jd k++[tx ⟨#[41]⟩]):=sC fun a=>by
 show sA (mH p) (sB k a)=_
 rw[b a];rfl
theorem Gh{k m:List Nd}(c:oh k)(d:oh m)(p:Nat)(a:ByteArray):oh (fZ p a::(k++m))/\jd (fZ p a::(k++m))=jd k++tx a::jd m:=sC fun b=>by
 show sA (fZ p a) (sB (k++m) b)=_
 rw[Ba,d b,c];rfl
theorem sD(a:Option Addr)(w:World):Sem.run prog (Instr.typeAssert (.iface 392 (.pointer a)) 248 386 true) w=.ok (.tuple #[.pointer none,.bool false]) w:=by kernel_rfl
theorem rN(a:Option Addr)(w:World):Sem.run prog (Instr.typeAssert (.iface 395 (.pointer a)) 248 386 true) w=.ok (.tuple #[.pointer none,.bool false]) w:=by kernel_rfl
theorem sE(a:Option Addr)(w:World):Sem.run prog (Instr.typeAssert (.iface 395 (.pointer a)) 248 392 true) w=.ok (.tuple #[.pointer none,.bool false]) w:=by kernel_rfl
theorem qX(a:Option Addr)(w:World):Sem.run prog (Instr.typeAssert (.iface 398 (.pointer a)) 248 386 true) w=.ok (.tuple #[.pointer none,.bool false]) w:=by kernel_rfl
theorem rO(a:Option Addr)(w:World):Sem.run prog (Instr.typeAssert (.iface 398 (.pointer a)) 248 392 true) w=.ok (.tuple #[.pointer none,.bool false]) w:=by kernel_rfl
theorem qY(a:Option Addr)(w:World):Sem.run prog (Instr.typeAssert (.iface 398 (.pointer a)) 248 395 true) w=.ok (.tuple #[.pointer none,.bool false]) w:=by kernel_rfl
theorem un(a:Option Addr)(w:World):Sem.run prog (Instr.typeAssert (.iface 265 (.pointer a)) 248 386 true) w=.ok (.tuple #[.pointer none,.bool false]) w:=by kernel_rfl
theorem wo(a:Option Addr)(w:World):Sem.run prog (Instr.typeAssert (.iface 265 (.pointer a)) 248 392 true) w=.ok (.tuple #[.pointer none,.bool false]) w:=by kernel_rfl
theorem uo(a:Option Addr)(w:World):Sem.run prog (Instr.typeAssert (.iface 265 (.pointer a)) 248 395 true) w=.ok (.tuple #[.pointer none,.bool false]) w:=by kernel_rfl
theorem sF(a:Option Addr)(w:World):Sem.run prog (Instr.typeAssert (.iface 265 (.pointer a)) 248 398 true) w=.ok (.tuple #[.pointer none,.bool false]) w:=by kernel_rfl
theorem Bb(a:Option Addr)(w:World):Sem.run prog (Instr.typeAssert (.iface 386 (.pointer a)) 248 386 true) w=.ok (.tuple #[.pointer a,.bool true]) w:=by kernel_rfl
theorem Cz(a:Option Addr)(w:World):Sem.run prog (Instr.typeAssert (.iface 392 (.pointer a)) 248 392 true) w=.ok (.tuple #[.pointer a,.bool true]) w:=by kernel_rfl
theorem Bc(a:Option Addr)(w:World):Sem.run prog (Instr.typeAssert (.iface 395 (.pointer a)) 248 395 true) w=.ok (.tuple #[.pointer a,.bool true]) w:=by kernel_rfl
theorem zF(a:Option Addr)(w:World):Sem.run prog (Instr.typeAssert (.iface 398 (.pointer a)) 248 398 true) w=.ok (.tuple #[.pointer a,.bool true]) w:=by kernel_rfl
theorem ED(a:Option Addr)(w:World):Sem.run prog (Instr.typeAssert (.iface 265 (.pointer a)) 248 265 true) w=.ok (.tuple #[.pointer a,.bool true]) w:=by kernel_rfl
end
end Go.Proofs.YtfkeddkfegaeiaaGreatDoor
