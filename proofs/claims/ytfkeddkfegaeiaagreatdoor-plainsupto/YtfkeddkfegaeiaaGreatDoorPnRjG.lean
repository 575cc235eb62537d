import Derived.Test.YtfkeddkfegaeiaaGreatDoorPnRjD
set_option maxRecDepth 100000
set_option maxHeartbeats 20000000
namespace Go.Proofs.YtfkeddkfegaeiaaGreatDoor
section
open Go.RowKit Tryz
structure fK(W:World)(lo:Nat)(v:Value)(us:List Value)(ls:List (List Int)):Prop where
 own:W.ownsRow lo 32 1 v us.length us
 len:us.length=ls.length
 at': ∀(i:Nat) (u:Value) (r:List Int),us[i]? =some u->ls[i]? =some r->W.ownsRow lo 3 1 u r.length (aE r)/\r.length<=6
 one: ∀(i j:Nat) (u u':Value) (b:Nat),us[i]? =some u->us[j]? =some u'->u.ownBlock=some b->u'.ownBlock=some b->i=j
structure vW(w W:World)(kb lo:Nat)(S:Nat->Prop)(vT vR:Value)(es ts rs:List (Value×Nat))(v:Value)(us:List Value)(ls:List (List Int))(i:Nat)(S':Nat->Prop)(vI:Value)(es':List (Value×Nat)):Prop where
 bk:Bk W kb lo S' vI vT vR es' ts rs
 len:es'.length=es.length+4*i
 own:W.ownsRow lo 32 1 v us.length us
 rest: ∀(j:Nat) (u:Value) (r:List Int),i<=j->us[j]? =some u->ls[j]? =some r->W.ownsRow lo 3 1 u r.length (aE r)
 fp: ∀k,S' k->S k∨(∃j u,j<i/\us[j]? =some u/\u.ownBlock=some k)∨w.heap.size<=k
 turn:bw (fun k=>S k∨ ∃u∈us,u.ownBlock=some k) w W
theorem vW.step{w W W':World}{q lo:Nat}{S:Nat->Prop}{r s:Value}{B ts rs:List (Value×Nat)}{v:Value}{us:List Value}{n:List (List Int)}{i:Nat}{S':Nat->Prop}{F:Value}{t:List (Value×Nat)}(g:vW w W q lo S r s B ts rs v us n i S' F t)(h:fK w lo v us n)(G: ∀b,v.ownBlock=some b-> ¬S b)(H: ∀u∈us,∀b,u.ownBlock=some b-> ¬S b){u:Value}(o:us[i]? =some u)
  {x:Nat->Prop} {C:Value} {y:List (Value×Nat)} (I:y.length=4) (f:Bk W' q lo x C r s (t++y) ts rs) (J: ∀k,x k->S' k∨u.ownBlock=some k∨W.heap.size<=k) (z:bw (fun k=>S' k∨u.ownBlock=some k) W W'):vW w W' q lo S r s B ts rs v us n (i+1) x C (t++y):=by
 have D: ∀(d:Nat) (c:Value),us[d]? =some c-> ∀b,c.ownBlock=some b->b<w.heap.size/\ ∃p,w.heap[b]? =some (.cells p 3 (0,0)):=fun d c j b f=>by
  obtain⟨l,K⟩: ∃l,n[d]? =some l:=⟨_,Jl (by rw[<-h.len];exact(Jy.1 j).1)⟩
  obtain⟨p,m⟩:=aO (h.at' d c l j K).1 f;exact⟨aa m,p,m⟩
 have L: ∀b,v.ownBlock=some b-> ¬(S' b∨u.ownBlock=some b):=fun b f a=>by
  obtain⟨p,m⟩:=aO h.own f;have E: ∀(d:Nat) (c:Value),us[d]? =some c-> ¬c.ownBlock=some b:=fun d c j a=>by obtain⟨-,O,M⟩:=D d c j b a;exact dM m M (by decide) rfl
  rcases a with a|a
  ·rcases g.fp b a with e|⟨d,c,e,A,h3⟩|e
   ·exact G b f e
   ·exact E d c A h3
   ·have:=aa m;omega
  ·exact E i u o a
 refine⟨f,by rw[Jk,g.len,I];omega,cE g.own z L,fun d c l j e A=>?_,fun k N=>?_,g.turn.trans z (fun b f a=>?_)⟩
 ·refine cE (g.rest d c l (by omega) e A) z (fun b f a=>?_);rcases a with a|a
  ·rcases g.fp b a with g1|⟨j',u9,g1,g2,g3⟩|g1
   ·exact H c (JL e) b f g1
   ·have:=h.one d j' c u9 b e g2 f g3;omega
   ·have:=(D d c e b f).1;omega
  ·have:=h.one d i c u b e o f a;omega
 ·rcases J k N with e|e|e
  ·rcases g.fp k e with g1|⟨j',u9,g1,g2,g3⟩|g1
   ·exact Or.inl g1
   ·exact Or.inr (Or.inl ⟨j',u9,by omega,g2,g3⟩)
   ·exact Or.inr (Or.inr g1)
  ·exact Or.inr (Or.inl ⟨i,u,by omega,o,e⟩)
  ·exact Or.inr (Or.inr (Jt g.turn.size e))
 ·rcases a with a|a
  ·rcases g.fp b a with g1|⟨j',u9,g1,g2,g3⟩|g1
   ·exact Or.inl g1
   ·exact Or.inr ⟨u9,JL g2,g3⟩
   ·omega
  ·exact Or.inr ⟨u,JL o,a⟩
theorem vW.notv{w W:World}{h lo:Nat}{S:Nat->Prop}{j k:Value}{l ts rs:List (Value×Nat)}{v:Value}{us:List Value}{a:List (List Int)}{i:Nat}{S':Nat->Prop}{m:Value}{n:List (Value×Nat)}(o:vW w W h lo S j k l ts rs v us a i S' m n)(c:fK w lo v us a)(p: ∀b,v.ownBlock=some b-> ¬S b): ∀b,v.ownBlock=some b-> ¬S' b:=fun b e q=>by
 obtain⟨t,f⟩:=aO c.own e;rcases o.fp b q with h1|⟨g,u',h1,h2,h3⟩|h1
 ·exact p b e h1
 ·obtain⟨d,r⟩: ∃d,a[g]? =some d:=⟨_,Jl (by rw[<-c.len];exact(Jy.1 h2).1)⟩
  obtain⟨u,s⟩:=aO (c.at' g u' d h2 r).1 h3;exact dM f s (by decide) rfl
 ·have:=aa f;omega
theorem vW.not{w W:World}{g lo:Nat}{S:Nat->Prop}{h j:Value}{k ts rs:List (Value×Nat)}{v:Value}{us:List Value}{c:List (List Int)}{i:Nat}{S':Nat->Prop}{l:Value}{m:List (Value×Nat)}(n:vW w W g lo S h j k ts rs v us c i S' l m)(d:fK w lo v us c)(o: ∀u∈us,∀b,u.ownBlock=some b-> ¬S b){u:Value}(a:us[i]? =some u): ∀b,u.ownBlock=some b-> ¬S' b:=fun b e p=>by
 obtain⟨f,q⟩: ∃f,c[i]? =some f:=⟨_,Jl (by rw[<-d.len];exact(Jy.1 a).1)⟩
 rcases n.fp b p with g1|⟨j',u9,g1,g2,g3⟩|g1
 ·exact o u (JL a) b e g1
 ·have:=d.one i j' u u9 b a g2 e g3;omega
 ·obtain⟨s,r⟩:=aO (d.at' i u f a q).1 e;have:=aa r;omega
theorem FL{a:Type}(xs:List a)(m:a)(i:Nat)(b:i<xs.length):(List.replicate i m++xs.drop i).set i m=List.replicate (i+1) m++xs.drop (i+1):=by rw[KC _ _ (by simp),LW,Kv,Kz b,JX,LG,Kf];rfl
theorem Ir:(prog.info? 152).map (fun i=>(i.zero,i.size,i.bytes))=some (some (.agg #[.slice none 0 0,.int .i64 0]),2,32):=by kernel_rfl
theorem G5{w w':World}{r lo:Nat}{S:Nat->Prop}{C D p t:Value}{K ts rs x:List (Value×Nat)}(f:Bk w r lo S C D p K ts rs){v:Value}(N: ∀b,v.ownBlock=some b-> ∃cs,w.heap[b]? =some (.cells cs 32 (0,0)))(L: ∀b,v.ownBlock=some b-> ¬S b){q:Nat}(O:lo<=q)(A:w.heap[q]? =some (.cells #[.int .i64 (-1-(rs.length:Int))] 3 (0,0)))
  (a:w'.heap[r]? =some (.cells #[C,D,t,.slice none 0 0] 66 (0,0))) (E:w'.ownsRow lo 152 2 t (rs.length+4) ((rs++x).flatMap je)) (P:x.length=4) (F: ∀e∈x,e.2=rs.length/\dS w' lo 32 e.1 (.slice (some ⟨q,0,none⟩) 1 1)/\ ∀b,e.1.ownBlock=some b->v.ownBlock=some b∨w.heap.size<=b) (Q: ∀b,t.ownBlock=some b->p.ownBlock=some b∨w.heap.size<=b) (s:bw (fun k=>k=r∨p.ownBlock=some k∨v.ownBlock=some k) w w'):
  ∃S',Bk w' r lo S' C D t K ts (rs++x)/\ ∀k,S' k->S k∨v.ownBlock=some k∨w.heap.size<=k∨k=q:=by
 have G:w'.heap[q]? =some (.cells #[.int .i64 (-1-(rs.length:Int))] 3 (0,0)):=s.old A (fun e=>by
  rcases e with e|e|e
  ·exact dM A f.blk (by decide) e
  ·obtain⟨H,c⟩:=aO f.or e;exact dM A c (by decide) rfl
  ·obtain⟨H,c⟩:=N q e
   exact dM A c (by decide) rfl)
 have y: ∀b cs d,S b->w.heap[b]? =some (.cells cs d (0,0))->d≠66->d≠152-> ¬(b=r∨p.ownBlock=some b∨v.ownBlock=some b):=fun b cs d j a g n e=>by
  rcases e with e|e|e
  ·exact dM a f.blk g e
  ·obtain⟨H,c⟩:=aO f.or e;exact dM a c n rfl
  ·exact L b e j
 have z: ∀b cs d,w.heap[b]? =some (.cells cs d (0,0))->d≠152-> ¬p.ownBlock=some b:=fun b cs d a n e=>by obtain⟨H,c⟩:=aO f.or e;exact dM a c n rfl
 have I: ∀(e:Value×Nat) (d:TypeId) (u:Value),dS w lo d e.1 u->(∀b,e.1.ownBlock=some b->S b)->d≠152-> ∀b,e.1.ownBlock=some b->S b/\ ¬p.ownBlock=some b:=fun e d u g n J b a=>⟨n b a,by obtain⟨_,cs,c⟩:=g.block a;exact z b cs d c J⟩
 have M: ∀(e:Value×Nat) (d:TypeId) (u:Value),dS w lo d e.1 u->(∀b,e.1.ownBlock=some b->S b)->d≠66->d≠152->dS w' lo d e.1 u:=fun e d u g n J R=>g.turn s (fun b a=>by obtain⟨_,cs,c⟩:=g.block a;exact y b cs d (n b a) c J R);refine⟨fun k=>(S k/\ ¬p.ownBlock=some k)∨t.ownBlock=some k∨(∃e∈x,e.1.ownBlock=some k)∨k=q,⟨a,cE f.oi s (fun b a=>by obtain⟨cs,c⟩:=aO f.oi a;exact y b cs _ (f.fp.2.1 b a) c (by decide) (by decide)),cE f.ot s (fun b a=>by obtain⟨cs,c⟩:=aO f.ot a;exact y b cs _ (f.fp.2.2.1 b a) c (by decide) (by decide)),by rw[Jk,P];exact E,fun e h=>?_,fun e h=>?_,fun e h=>?_,?_,fun k j=>?_⟩,fun k o=>?_⟩
 ·obtain⟨i,m,l⟩:=f.ei e h;exact⟨M e _ _ i l (by decide) (by decide),m,fun b a=>Or.inl (I e _ _ i l (by decide) b a)⟩
 ·obtain⟨i,m,l⟩:=f.et e h;exact⟨M e _ _ i l (by decide) (by decide),m,fun b a=>Or.inl (I e _ _ i l (by decide) b a)⟩
 ·rcases JW.1 h with h|h
  ·obtain⟨i,m,l⟩:=f.er e h;have T:=i;obtain⟨Y,B,-⟩:=T;exact⟨i.turn s (fun b a=>by obtain⟨_,cs,c⟩:=B.block a;exact y b cs _ (l b a) c (by decide) (by decide)) (fun b a ⟨cs,c⟩=>y b cs _ a c (by decide) (by decide)) (fun b a ⟨cs,c⟩=>Or.inl ⟨a,z b cs _ c (by decide)⟩),by rw[Jk];omega,fun b a=>Or.inl (I e _ _ B l (by decide) b a)⟩
  ·obtain⟨i,m,-⟩:=F e h;refine⟨⟨q,m,Or.inr (Or.inr (Or.inr rfl)),?_⟩,by rw[Jk];omega,fun b a=>Or.inr (Or.inr (Or.inl ⟨e,h,a⟩))⟩;rw[i];exact G
 ·refine⟨Or.inl ⟨f.fp.1,z _ _ _ f.blk (by decide)⟩,fun b a=>Or.inl ⟨f.fp.2.1 b a,?_⟩,fun b a=>Or.inl ⟨f.fp.2.2.1 b a,?_⟩,fun b a=>Or.inr (Or.inl a)⟩
  ·obtain⟨cs,c⟩:=aO f.oi a;exact z b cs _ c (by decide)
  ·obtain⟨cs,c⟩:=aO f.ot a;exact z b cs _ c (by decide)
 ·have V: ∀b,t.ownBlock=some b->lo<=b/\b<w'.heap.size/\ ∃cs d,w'.heap[b]? =some (.cells cs d (0,0))/\kT d=false:=fun b a=>by
   obtain⟨cs,c⟩:=aO E a;exact⟨(E.lt b a).1,aa c,cs,_,c,by decide⟩
  rcases j with⟨j,n⟩|j|⟨e,h,j⟩|j
  ·obtain⟨i,m,cs,d,l,W⟩:=f.st k j;by_cases g:k=r
   ·rw[g];exact⟨by rw[<-g];exact i,aa a,_,_,a,by decide⟩
   ·have X: ¬(k=r∨p.ownBlock=some k∨v.ownBlock=some k):=fun e=>by
     rcases e with e|e|e
     ·exact g e
     ·exact n e
     ·exact L k e j
    exact⟨i,Js m s.size,cs,d,s.old l X,W⟩
  ·exact V k j
  ·obtain⟨-,m,-⟩:=F e h;obtain⟨B,cs,c⟩:=m.block j;exact⟨B,aa c,cs,_,c,by decide⟩
  ·rw[j];exact⟨O,aa G,_,_,G,by decide⟩
 ·rcases o with o|o|⟨e,h,o⟩|o
  ·exact Or.inl o.1
  ·rcases Q k o with g|g
   ·exact Or.inl (f.fp.2.2.2 k g)
   ·exact Or.inr (Or.inr (Or.inl g))
  ·obtain⟨-,-,l⟩:=F e h;rcases l k o with g|g
   ·exact Or.inr (Or.inl g)
   ·exact Or.inr (Or.inr (Or.inl g))
  ·exact Or.inr (Or.inr (Or.inr o))
theorem G6(w:World)(s lo:Nat)(S:Nat->Prop)(bk L b':Value)(N ts rs:List (Value×Nat))(an:Bk w s lo S bk L b' N ts rs)(dp:lo<=w.heap.size)(dq:N.length<=800000000000)(ds:rs.length<=800000000)(v:Value)(us:List Value)(aL:List (List Int))(aN:fK w lo v us aL)(dw:us.length<=4000)(bl: ∀b,v.ownBlock=some b-> ¬S b)(bn: ∀u∈us,∀b,u.ownBlock=some b-> ¬S b):
  Calls prog 55 #[.pointer (some ⟨s,0,none⟩),v] w fun e w'=>e=.returned (.tuple #[])/\ ∃t ca D r S',D.length=N.length+4*us.length/\r.length=rs.length+4/\Bk w' s lo S' t L ca D ts r/\(∀k,S' k->S k∨v.ownBlock=some k∨(∃u∈us,u.ownBlock=some k)∨w.heap.size<=k)/\bw (fun k=>S k∨v.ownBlock=some k∨ ∃u∈us,u.ownBlock=some k) w w':=by
 obtain⟨hz,f,rfl⟩:=bi aN.own;obtain⟨E,F,rfl⟩:=bi an.or;obtain⟨aR,j,bq,br⟩:=aP an aN bl bn;have dT:=aa an.blk;clear an aN bl bn;go_enter func55,ntmps55;go_wp2_with fail
 go_loopg [4] us.length (fun O P x=> ∃(a:Nat) (S':Nat->Prop) (t:Value) (D:List (Value×Nat)),a+O=us.length/\P=.int .i64 (a:Nat)/\vW w x s lo S L (.slice E rs.length F) N ts rs (.slice hz us.length f) us aL a S' t D)
 case atStart=>exact⟨0,S,bk,N,by omega,rfl,aR,rfl,j.own,fun d u y _ m Q=>(j.at' d u y m Q).1,fun k R=>Or.inl R,bw.refl _ _⟩
 case round=>
  obtain⟨a,S',t,D,cb,rfl,c⟩:=hrel;have G:=ab c;have d':=c.turn.size;by_cases T:a<us.length
  ·have aT:decide (a<us.length)=true:=by simp;omega
   obtain⟨n,rfl⟩: ∃n,gk=n+1:=⟨gk-1,by omega⟩
   obtain⟨u,M⟩: ∃u,us[a]? =some u:=⟨_,Jl T⟩
   obtain⟨y,aU⟩: ∃y,aL[a]? =some y:=⟨_,Jl (by rw[<-j.len];exact T)⟩
   have aV:=c.rest a u y (Ji _) M aU;have cc:=ab (G4 wr s lo S' t L (.slice E rs.length F) D ts rs c.bk (by omega) (by have:=c.len;omega) u y aV (j.at' a u y M aU).2 (c.not j br M));obtain⟨cd,ce,rfl⟩:=bi aV;obtain⟨ea,eb,rfl,ed,c1⟩: ∃b o,hz=some ⟨b,o,none⟩/\b<wr.heap.size/\wr.cell? ⟨b,o+a,none⟩=some (.slice cd y.length ce):=by obtain⟨ef,eg,a0,-,V⟩:=eL c.own;injection a0 with a0 ei en;subst a0;obtain⟨b,o,rfl,cf,V⟩:=V (by omega);exact⟨b,o,rfl,cf,by rw[V a T];exact M⟩
   have cg:(0:Int)<=(a:Int):=by omega
   have ch:(a:Int)<(us.length:Int):=by omega
   have ci:=ab M;clear c aV M aU;go_wp2_with fail;refine cc.mono ?_;rintro e eo ⟨rfl,cj,bs,a1,cl,ao,ap,bt⟩;have cp:=ab (G.step j bq br ci cl ao ap bt);clear ao ap bt;go_wp2;go_roundg n
   case measure=>simp
   case rel=>exact⟨a+1,a1,cj,_,by omega,by go_num,cp⟩
  ·have aT:decide (a<us.length)=false:=by simp;omega
   obtain rfl:a=us.length:=by omega
   obtain⟨ep,eq⟩:=blk c.bk.blk;have er:=aa c.bk.blk;clear c;have W:Below wr.heap.size wr (wr.alloc (.cells #[.int .i64 (-1-(rs.length:Int))] 3)):=(Jj _ _).alloc (Ji _) _;have ar:(wr.alloc (.cells #[.int .i64 (-1-(rs.length:Int))] 3)).heap[wr.heap.size]? =some (.cells #[.int .i64 (-1-(rs.length:Int))] 3 (0,0)):=af rfl
   obtain⟨i,a2⟩: ∃i,i=wr.alloc (.cells #[.int .i64 (-1-(rs.length:Int))] 3):=⟨_,rfl⟩
   rw[<-a2]at W ar;obtain⟨bu,cq,cr,a3,a4⟩:=dD a2 W ar (G.bk.below W) (dJ G.own W);have es:wr.heap.size<i.heap.size:=aa ar;clear a2 W ar;go_wp2_with fail;rw[<-U bu];clear bu;have cs:lo<=wr.heap.size:=by omega
   have au:=G;have ct:Hid (bw (fun _=>False) wr i):=bw.below cq;generalize cu:wr.heap.size=z at*;clear cu;have a5:=ab a3.blk;have bv:=ab a3.or
   go_loopg [7] us.length (fun O P x=> ∃(a:Nat),a+O=us.length/\P=.int .i64 (a:Nat)/\x.ownsRow lo 32 1 (.slice hz us.length f) us.length (List.replicate a (.slice (some ⟨z,0,none⟩) 1 1)++us.drop a)/\bw (fun k=>(Value.slice hz us.length f).ownBlock=some k) i x/\x.heap.size=i.heap.size)
   case atStart=>exact⟨0,by omega,rfl,by simpa using U a4,bw.refl _ _,rfl⟩
   case round=>
    obtain⟨a,cb,rfl,c,H,a9⟩:=hrel;obtain⟨G,bx,cv⟩:=aC c H a9;by_cases T:a<us.length
    ·have aT:decide (a<us.length)=true:=by simp;omega
     obtain⟨n,rfl⟩: ∃n,gk=n+1:=⟨gk-1,by omega⟩
     rcases c.2 with⟨h0,h00⟩|⟨g,cap',cur,m,Q,h3,h4,h5,h6,V⟩
     ·omega
     injection m with cz bs cF;subst cz cF;clear bs;obtain⟨bz,et⟩:=blk h3;have ev:=aa h3;have X:a<cur.size:=by omega
     have ex:wr.cell? ⟨g,a,none⟩=some cur[a]:=by rw[bz a];simp[X]
     have cg:(0:Int)<=(a:Int):=by omega
     have ch:(a:Int)<(us.length:Int):=by omega
     obtain⟨cI,cL⟩:=ag (so c a (.slice (some ⟨z,0,none⟩) 1 1)) (FL us (Value.slice (some ⟨z,0,none⟩) 1 1) a T);have cN:Hid (bw (fun k=>(Value.slice (some ⟨g,0,none⟩) us.length f).ownBlock=some k) i (wr.setCell ⟨g,a,none⟩ (.slice (some ⟨z,0,none⟩) 1 1))):=H.trans (bw.set (S:=fun k=>(Value.slice (some ⟨g,0,none⟩) us.length f).ownBlock=some k) rfl _) (fun _ _ e=>e);clear c H a9 h3 V bz bx G;go_wp2;go_roundg n
     case measure=>simp
     case rel=>exact⟨a+1,by omega,by go_num,by rw[<-U cL];exact U cI,cN,by simpa [World.setCell]using U cv⟩
    ·have aT:decide (a<us.length)=false:=by simp;omega
     obtain rfl:a=us.length:=by omega
     have av:lR i wr s lo (fun a'=> #[t,L,a',.slice none 0 0]) 32 152 rs (.slice hz us.length f) (.slice E rs.length F) (.slice hz us.length f) us.length (.slice (some ⟨z,0,none⟩) 1 1) [] (.slice E rs.length F):=by
      have m: ∀k ba bb,i.heap[k]? =some (.cells ba bb (0,0))->32≠bb-> ¬(Value.slice hz us.length f).ownBlock=some k:=fun k ba bb R cR e=>by obtain⟨ez,X⟩:=aO a4 e;exact dM X R cR rfl
      refine⟨(H.block s (aa a5) (m _ _ _ a5 (by decide))).trans a5,?_,?_,(fun e Y=>by cases Y),fun b A=>Or.inl A,fun b A=>Or.inl A,H.mono (fun b e=>Or.inr (Or.inr e))⟩
      ·rw[JD];exact cE bv H (fun b A=>by obtain⟨ba,X⟩:=aO bv A;exact m _ _ _ X (by decide))
      ·have Q:=c;rw[List.drop_length,JD]at Q;exact Q
     have l:=ab av;obtain⟨cT,bA,Z⟩:=Jq.1 jS;simp only[JB]at Z;obtain⟨ac,ad,ae⟩:=Z;obtain⟨cV,cW,cZ,c0⟩:=aP bA ac ad ae;clear bA ac ad ae;obtain⟨bF,bG,Z⟩:=Jq.1 Ir;simp only[JB]at Z;obtain⟨ac,ad,ae⟩:=Z;obtain⟨bJ,bL,bN,bS⟩:=aP bG ac ad ae;clear bG ac ad ae;obtain⟨bc,be⟩:=blk av.blk;have c6:=aa av.blk;have eN:i.heap.size<=wr.heap.size:=by omega
     clear c H av G bx a9;have B:=ab (l.below ((Jj _ _).alloc (Ji _) (.cells #[.slice hz us.length f,.int .i64 (rs.length:Nat)] 152)));have bX:Hid ((wr.alloc (.cells #[.slice hz us.length f,.int .i64 (rs.length:Nat)] 152)).ownsRow lo 152 2 (.slice E rs.length F) rs.length (rs.flatMap je)):=by unfold Hid;simpa using B.own
     go_wp2_with (at_builtin;refine eM _ rfl _ _ 63 rfl lo 152 bF (.agg #[.slice none 0 0,.int .i64 0]) 2 32 underlying63 bJ bL bN bS rfl (by decide) E rs.length F _ rfl bX ⟨wr.heap.size,0,none⟩ 1 1 [.slice hz us.length f,.int .i64 (rs.length:Nat)] rfl rfl ?c1 ?c2 (by decide) ?c3 ?c4 ?c5 ?_)
     case c1=>exact qS (af rfl) rfl
     case c2=>exact uP ⟨_,_,_,rfl⟩ _
     case c3=>unfold maxLen;omega
     case c4=>omega
     case c5=>simp;omega
     intro g b0 c7 C p q;have j:=ab (B.push (g:=g) (cap':=b0) (W':=c7) (o:=2) (by simpa using C) p (by simpa using q) (by decide) (by decide) (by simp;omega) rfl (by omega) (by decide));have I:=B.kept p (by simpa using q) (by decide);obtain⟨b1,b2⟩:=blk I;have b3:=aa I;clear C p q I l B bX bc be;go_wp2_with fail
     go_loopg [1,8] 3 (fun O c8 P x=> ∃(d:Nat) (ax:Option Addr) (ay:Nat) (r:List (Value×Nat)) (aA:Option Addr) (aI:Nat),d+O=3/\P=.int .i64 (d:Nat)/\c8=.slice ax (us.length+d) ay/\r.length=d+1/\lR i x s lo (fun a'=> #[t,L,a',.slice none 0 0]) 32 152 rs (.slice hz us.length f) (.slice E rs.length F) (.slice ax (us.length+d) ay) (us.length+d) (.slice (some ⟨z,0,none⟩) 1 1) r (.slice aA (rs.length+d+1) aI)/\i.heap.size<=x.heap.size)
     case atStart=>exact⟨0,hz,f,_,some ⟨g,0,none⟩,b0,by omega,rfl,rfl,rfl,by simpa using U j,j.turn.size⟩
     case round=>
      obtain⟨d,ax,ay,r,aA,aI,eR,rfl,rfl,J,c,eT⟩:=hrel;have l:=ab c;obtain⟨bc,be⟩:=blk c.blk;have c6:=aa c.blk;have eX:lo<=wr.heap.size:=by omega
      clear j b1 b2 b3;by_cases e0:d<3
      ·have c9:decide ((d:Int)<3)=true:=by simp;omega
       obtain⟨n,rfl⟩: ∃n,gk=n+1:=⟨gk-1,by omega⟩
       have B:=ab (l.below ((Jj _ _).alloc (Ji _) (.cells #[.slice (some ⟨z,0,none⟩) 1 1] 32)));clear c;go_wp2_with (at_builtin;refine eM _ rfl _ _ 42 rfl lo 32 cT (.slice none 0 0) 1 24 underlying42 cV cW cZ c0 rfl (by decide) ax (us.length+d) ay _ rfl B.row ⟨wr.heap.size,0,none⟩ 1 1 [.slice (some ⟨z,0,none⟩) 1 1] rfl rfl ?c1 ?c2 (by decide) ?c3 ?c4 ?c5 ?_)
       case c1=>exact ge (af rfl)
       case c2=>first|exact kL _ _ _|rfl
       case c3=>unfold maxLen;omega
       case c4=>omega
       case c5=>simp;omega
       intro K aj bg C p q;have ak:=B.grow C p (by simpa using q) (by omega) (by decide) (by decide) (by simp;omega);have b4:=ab ak;obtain⟨c',dd⟩:=blk ak.blk;have e1:=aa ak.blk;have e2:i.heap.size<=bg.heap.size:=ak.turn.size;have aJ:=ab (b4.below ((Jj _ _).alloc (Ji _) (.cells #[.slice (some ⟨K,0,none⟩) (us.length+d+1) aj,.int .i64 (rs.length:Nat)] 152)));have b5:Hid ((bg.alloc (.cells #[.slice (some ⟨K,0,none⟩) (us.length+d+1) aj,.int .i64 (rs.length:Nat)] 152)).ownsRow lo 152 2 (.slice aA (rs.length+d+1) aI) (rs.length+d+1) ((rs++r).flatMap je)):=by have al:=aJ.own;rw[J,<-MA]at al;exact al
       clear C p q ak l B bc be;go_wp2_with (at_builtin;refine eM _ rfl _ _ 63 rfl lo 152 bF (.agg #[.slice none 0 0,.int .i64 0]) 2 32 underlying63 bJ bL bN bS rfl (by decide) aA (rs.length+d+1) aI _ rfl b5 ⟨bg.heap.size,0,none⟩ 1 1 [.slice (some ⟨K,0,none⟩) (us.length+d+1) aj,.int .i64 (rs.length:Nat)] rfl rfl ?c1 ?c2 (by decide) ?c3 ?c4 ?c5 ?_)
       case c1=>exact qS (af rfl) rfl
       case c2=>exact uP ⟨_,_,_,rfl⟩ _
       case c3=>unfold maxLen;omega
       case c4=>omega
       case c5=>simp;omega
       intro b6 b7 b9 C p q;have j:=ab (aJ.push (g:=b6) (cap':=b7) (W':=b9) (o:=2) (by rw[J,<-MA,List.flatMap_append,Kf];exact C) p (by simpa using q) (by decide) (by decide) (by simp;omega) rfl (by omega) (by decide));have I:=aJ.kept p (by simpa using q) (by decide);obtain⟨b1,b2⟩:=blk I;have b3:=aa I;have df:i.heap.size<=b9.heap.size:=by have:=p.size;simp at this;omega
       clear C p q I aJ b5 c' dd b4;go_wp2;go_roundg n
       case measure=>simp
       case rel=>exact⟨d+1,some ⟨K,0,none⟩,aj,r++[(.slice (some ⟨K,0,none⟩) (us.length+d+1) aj,rs.length)],some ⟨b6,0,none⟩,b7,by omega,by go_num,rfl,by rw[Jk,J];rfl,by have al:=U j;rw[J,<-MA]at al;exact al,by simpa [World.setCell]using df⟩
      ·have c9:decide ((d:Int)<3)=false:=by simp;omega
       obtain rfl:d=3:=by omega
       clear c;go_wp2;go_end0;have dk: ∀b,(Value.slice hz us.length f).ownBlock=some b-> ¬S' b:=au.notv j bq;obtain⟨a1,ao,ap⟩:=G5 a3 (v:=.slice hz us.length f) (fun b A=>aO a4 A) dk cs cr l.blk (by have:=l.own;rw[J]at this;exact this) J (fun e Y=>⟨(l.ent e Y).1,(l.ent e Y).2.1,(l.ent e Y).2.2.1⟩) l.vIb l.turn;refine⟨rfl,t,_,D,rs++r,a1,au.len,by rw[Jk,J],ao,fun k R=>?_,?_⟩
       ·rcases ap k R with m|m|m|m
        ·rcases au.fp k m with g1|⟨j',u9,g1,g2,K⟩|g1
         ·exact Or.inl g1
         ·exact Or.inr (Or.inr (Or.inl ⟨u9,JL g2,K⟩))
         ·exact Or.inr (Or.inr (Or.inr g1))
        ·exact Or.inr (Or.inl m)
        ·exact Or.inr (Or.inr (Or.inr (by omega)))
        ·exact Or.inr (Or.inr (Or.inr (by omega)))
       ·refine((au.turn.mono (S':=fun k=>S k∨(Value.slice hz us.length f).ownBlock=some k∨ ∃u∈us,u.ownBlock=some k) (fun b e=>?_)).trans ct (fun _ _ e=>e.elim)).trans l.turn (fun b A e=>?_)
        ·rcases e with e|e
         ·exact Or.inl e
         ·exact Or.inr (Or.inr e)
        ·rcases e with e|e|e
         ·rw[e];exact Or.inl aR.fp.1
         ·exact Or.inl (aR.fp.2.2.2 b e)
         ·exact Or.inr (Or.inl e)
theorem fK.turn{W W':World}{lo:Nat}{v:Value}{us:List Value}{d:List (List Int)}{T:Nat->Prop}(a:fK W lo v us d)(e:bw T W W')(g: ∀b,v.ownBlock=some b-> ¬T b)(h: ∀u∈us,∀b,u.ownBlock=some b-> ¬T b):fK W' lo v us d:=
 ⟨cE a.own e g,a.len,fun i u r c f=>⟨cE (a.at' i u r c f).1 e (h u (JL c)),(a.at' i u r c f).2⟩,a.one⟩
def jO(a b:Value)(us:List Value)(k:Nat):Prop:=a.ownBlock=some k∨b.ownBlock=some k∨ ∃c∈us,c.ownBlock=some k
theorem fK.typ{W:World}{lo:Nat}{v:Value}{us:List Value}{c:List (List Int)}(d:fK W lo v us c): ∀u∈us,∀b,u.ownBlock=some b-> ∃cs,W.heap[b]? =some (.cells cs 3 (0,0)):=fun u g b h=>by
 obtain⟨e,f⟩:=LB.1 g
 obtain⟨a,i⟩: ∃a,c[e]? =some a:=⟨_,Jl (by rw[<-d.len];exact(Jy.1 f).1)⟩
 exact aO (d.at' e u a f i).1 h
theorem DV(w:World)(o lo:Nat)(S:Nat->Prop)(L W M:Value)(p ts rs:List (Value×Nat))(v:Bk w o lo S L W M p ts rs)(be:lo<=w.heap.size)(bg:p.length<=800000000000)(bk:ts.length<=800000000)(bl:rs.length<=800000000)(q:Value)(c:List ByteArray)(x:w.ownsRow lo 9 1 q c.length (aB c))(ar:c.length<=6)(r:Value)(us:List Value)(y:List (List Int))(z:fK w lo r us y)(au:us.length<=4000)(N: ∀k,jO q r us k-> ¬S k):
  Calls prog 27 #[.pointer (some ⟨o,0,none⟩),.agg #[q,r]] w fun e w'=>e=.returned (.tuple #[])/\ ∃O A P B s C S',B.length=p.length+4*us.length/\s.length=ts.length+4/\C.length=rs.length+4/\Bk w' o lo S' O A P B s C/\(∀k,S' k->S k∨jO q r us k∨w.heap.size<=k)/\bw (fun k=>S k∨jO q r us k) w w':=by
 obtain⟨hz,i,rfl⟩:=bi x;obtain⟨j,l,rfl⟩:=bi z.own
 obtain⟨m,D⟩: ∃m,m=w.alloc (.cells #[.slice hz c.length i,.slice j us.length l] 68):=⟨_,rfl⟩
 have n:Below w.heap.size w m:=by rw[D];exact(Jj _ _).alloc (Ji _) _
 have E:m.heap[w.heap.size]? =some (.cells #[.slice hz c.length i,.slice j us.length l] 68 (0,0)):=by rw[D];exact af rfl
 have X:=v.below n;have Y:=dJ x n;have Z:fK m lo (.slice j us.length l) us y:=z.turn (T:=fun _=>False) (bw.below n) (fun _ _ e=>e) (fun _ _ _ _ e=>e);obtain⟨av,ac,ax,ay,aA,aI,ad,F⟩:=A0 (FK m o lo S L W M p ts rs X (by have:=n.size;omega) (by omega) _ c Y ar (fun a b=>N a (Or.inl b))) n E Z v x z N;have aJ:=ab D;have aL:=aa E;obtain⟨aN,aR⟩:=blk E;have aT:=v.st;clear n E X Y Z v x z N D aT;go_enter func27,ntmps27;go_wp2_with fail;rw[<-U aJ];refine av.mono ?_;rintro e Q ⟨rfl,A,s,aU,aV,ae,G,t⟩;have a0: ∀k,S k->k<w.heap.size:=fun k R=>(aA.st k R).2.1;have H: ∀a,(Value.slice hz c.length i).ownBlock=some a->a<w.heap.size/\ ∃u,w.heap[a]? =some (.cells u 9 (0,0)):=fun a b=>by obtain⟨u,f⟩:=aO aI b;exact⟨aa f,u,f⟩
 have I: ∀a,(Value.slice j us.length l).ownBlock=some a->a<w.heap.size/\ ¬(Value.slice hz c.length i).ownBlock=some a:=fun a b=>by obtain⟨u,f⟩:=aO ad.own b;exact⟨aa f,fun e=>by obtain⟨-,a1,V⟩:=H a e;exact dM f V (by decide) rfl⟩
 have J: ∀d∈us,∀a,d.ownBlock=some a->a<w.heap.size/\ ¬(Value.slice hz c.length i).ownBlock=some a:=fun d g a b=>by obtain⟨u,f⟩:=ad.typ d g a b;exact⟨aa f,fun e=>by obtain⟨-,a1,V⟩:=H a e;exact dM f V (by decide) rfl⟩
 have bn:=ac.size
 have aj:fK Q lo (.slice j us.length l) us y:=ay.turn t (fun a b e=>by
  rcases e with e|e
  ·exact F a (Or.inr (Or.inl b)) e
  ·exact(I a b).2 e) (fun d g a b e=>by
  rcases e with e|e
  ·exact F a (Or.inr (Or.inr ⟨d,g,b⟩)) e
  ·exact(J d g a b).2 e)
 have K:Q.heap[w.heap.size]? =_:=(t.block w.heap.size aL (fun e=>by
  rcases e with e|e
  ·have:=a0 _ e;omega
  ·have:=(H _ e).1;omega)).trans ax
 have a2:=ab (G6 Q o lo aU L A M p (ts++s) rs ae (by have:=t.size;omega) (by omega) (by omega) _ us y aj au (fun a b e=>by
  rcases G a e with h1|h1|h1
  ·exact F a (Or.inr (Or.inl b)) h1
  ·exact(I a b).2 h1
  ·have:=(I a b).1;omega) (fun d g a b e=>by
  rcases G a e with h1|h1|h1
  ·exact F a (Or.inr (Or.inr ⟨d,g,b⟩)) h1
  ·exact(J d g a b).2 h1
  ·have:=(J d g a b).1;omega))
 obtain⟨ak,al,bq⟩:=aC G t K;have br:=aa K;obtain⟨a3,a4⟩:=blk K;clear aN aR ae G t aj K H I J;go_wp2_with fail;refine a2.mono ?_;rintro e bs ⟨rfl,O,P,B,C,a5,a9,a',an,ao,ap⟩;obtain⟨ba,bb,bc⟩:=aC an ao ap;clear an ao ap a3 a4;go_wp2;go_end0;have bt:=al.size;refine⟨rfl,O,A,P,B,ts++s,C,a5,a9,by rw[Jk,aV],a',ba,fun k R=>?_,?_⟩
 ·rcases bb k R with h1|h1|h1|h1
  ·rcases ak k h1 with g1|g1|g1
   ·exact Or.inl g1
   ·exact Or.inr (Or.inl (Or.inl g1))
   ·exact Or.inr (Or.inr (by omega))
  ·exact Or.inr (Or.inl (Or.inr (Or.inl h1)))
  ·exact Or.inr (Or.inl (Or.inr (Or.inr h1)))
  ·exact Or.inr (Or.inr (by omega))
 ·refine((bw.below (S:=fun k=>S k∨jO (.slice hz c.length i) (.slice j us.length l) us k) ac).trans al (fun a _ e=>?_)).trans bc (fun a b e=>?_)
  ·rcases e with e|e
   ·exact Or.inl e
   ·exact Or.inr (Or.inl e)
  ·rcases e with e|e|e
   ·rcases ak a e with g1|g1|g1
    ·exact Or.inl g1
    ·exact Or.inr (Or.inl g1)
    ·omega
   ·exact Or.inr (Or.inr (Or.inl e))
   ·exact Or.inr (Or.inr (Or.inr e))
theorem dS.cells{W:World}{lo:Nat}{t:TypeId}{v u:Value}(a:dS W lo t v u): ∃b n cap,v=.slice b n cap/\n<=10000/\(0<n-> ∃g,b=some ⟨g,0,none⟩/\g<W.heap.size/\ ∀k,k<n->W.cell? ⟨g,k,none⟩=some u):=by
 rcases a with a|⟨g,n,cap,cs,h1,h2,h3,h4,h5,h6⟩
 ·exact⟨none,0,0,a,by omega,fun a=>by omega⟩
 ·exact⟨some ⟨g,0,none⟩,n,cap,h1,h5,fun _=>⟨g,rfl,aa h3,fun k c=>by rw[(blk h3).1 k];exact h6 k c⟩⟩
theorem FM(w:World)(j lo:Nat)(S:Nat->Prop)(a0 a1 a2:Value)(m ts rs:List (Value×Nat))(P:Bk w j lo S a0 a1 a2 m ts rs)(bv:m.length<=900000000000)(bx:ts.length<=900000000)(bz:rs.length<=900000000):
  Calls prog 28 #[.pointer (some ⟨j,0,none⟩)] w fun e w'=>e=.returned (.bool true)/\Below w.heap.size w w':=by
 obtain⟨a3,au,rfl⟩:=bi P.oi;obtain⟨a4,a5,rfl⟩:=bi P.ot;obtain⟨a9,av,rfl⟩:=bi P.or;have ak:=ab P;clear P;go_enter func28,ntmps28;go_wp2_with fail
 go_loopg [3] m.length (fun f Q i=> ∃(a:Nat),a+f=m.length/\Q=.int .i64 (a:Nat)/\Below w.heap.size w i)
 case atStart=>exact⟨0,by omega,rfl,Jj _ _⟩
 case round=>
  obtain⟨a,ad,rfl,b⟩:=hrel;have hz:=ak.below b;obtain⟨a',l⟩:=ag hz b;obtain⟨n,B⟩:=blk hz.blk;have C:=aa hz.blk;have v:wr.cell? ⟨j,0,none⟩=some (.slice a3 m.length au):=n 0;clear b;by_cases K:a<m.length
  ·have L:decide (a<m.length)=true:=by simp;omega
   obtain⟨o,rfl⟩: ∃o,gk=o+1:=⟨gk-1,by omega⟩
   obtain⟨e,q⟩: ∃e,m[a]? =some e:=⟨_,Jl K⟩
   obtain⟨D,E,R⟩:=hz.ei e (JL q);obtain⟨d,ax,r,x,-,s⟩:=cK (f:=je) (k:=2) (fun _=>rfl) hz.oi q;injection r with r T V;subst r V;clear T;obtain⟨W,g⟩:=e;obtain⟨y,c,z,F,ay,G⟩:=D.cells;have X:W=.slice y c z:=F;subst X;have H:wr.cell? ⟨d,a*2,none⟩=some (.slice y c z):=s 0 (by omega);have I:wr.cell? ⟨d,a*2+1,none⟩=some (.int .i64 (g:Nat)):=s 1 (by omega);have aA:(0:Int)<=(a:Int):=by omega
   have aI:(a:Int)<(m.length:Int):=by omega
   have aJ:g<=m.length:=E;have N:=ab G;clear hz D R s q G F E n B;go_wp2_with fail;generalize al:wr=Y at*;clear al
   go_loopg [4] c (fun f Z i=> ∃(k:Nat),k+f=c/\Z=.int .i64 (k:Nat)/\Below Y.heap.size Y i)
   case atStart=>exact⟨0,by omega,rfl,Jj _ _⟩
   case round=>
    obtain⟨k,aL,rfl,b⟩:=hrel;have ba:=(b.cell (p:=⟨j,0,none⟩) C).trans v;have bb:=(b.cell (p:=⟨d,a*2,none⟩) x).trans H;have bc:=(b.cell (p:=⟨d,a*2+1,none⟩) x).trans I;have be:j<wr.heap.size:=by have:=b.size;omega
    have bg:d<wr.heap.size:=by have:=b.size;omega
    have an:=ab b;by_cases M:k<c
    ·have ac:decide (k<c)=true:=by simp;omega
     obtain⟨t,rfl⟩: ∃t,gk=t+1:=⟨gk-1,by omega⟩
     obtain⟨u,rfl,ae,J⟩:=(U N) (by omega)
     have ao:=(b.cell (p:=⟨u,k,none⟩) ae).trans (J k M);have bk:u<wr.heap.size:=by have:=b.size;omega
     have aN:(0:Int)<=(k:Int):=by omega
     have aR:(k:Int)<(c:Int):=by omega
     have aT:((-1-(g:Int)) !=(-1-(g:Int)))=false:=by simp
     have bl:IntKind.i64.wrap (-1-(g:Int))= -1-(g:Int):=by unfold IntKind.wrap;simp[IntKind.bits,IntKind.signed];omega
     clear J b v H I
     go_upto_region 7 with(fail)
     go_region_held3 (fun i=>i.cell? ⟨j,0,none⟩=some (.slice (some ⟨d,0,none⟩) m.length au)/\i.cell? ⟨d,a*2,none⟩=some (.slice (some ⟨u,0,none⟩) c z)/\i.cell? ⟨d,a*2+1,none⟩=some (.int .i64 (g:Nat))/\i.cell? ⟨u,k,none⟩=some (.int .i64 (-1-(g:Int)))) (go_keep) (first|fail)
     all_goals
      go_wp2;go_roundg t
      case measure=>simp
      case rel=>exact⟨k+1,by omega,by go_num,an.drew⟩
    ·have ac:decide (k<c)=false:=by simp;omega
     have ap:Hid (Below w.heap.size w wr):=l.trans (b.mono l.size);clear b;go_wp2;go_roundg o
     case measure=>simp
     case rel=>exact⟨a+1,by omega,by go_num,ap⟩
  ·have L:decide (a<m.length)=false:=by simp;omega
   clear hz n B;go_wp2_with fail;clear L K ad a' C v
   go_loopg [5] ts.length (fun f Q i=> ∃(a:Nat),a+f=ts.length/\Q=.int .i64 (a:Nat)/\Below w.heap.size w i)
   case atStart=>exact⟨0,by omega,rfl,l⟩
   case round=>
    clear l;obtain⟨a,ad,rfl,b⟩:=hrel;have hz:=ak.below b;have l:=ab b;obtain⟨n,B⟩:=blk hz.blk;have C:=aa hz.blk;have v:wr.cell? ⟨j,1,none⟩=some (.slice a4 ts.length a5):=n 1;clear b;by_cases K:a<ts.length
    ·have L:decide (a<ts.length)=true:=by simp;omega
     obtain⟨o,rfl⟩: ∃o,gk=o+1:=⟨gk-1,by omega⟩
     obtain⟨e,q⟩: ∃e,ts[a]? =some e:=⟨_,Jl K⟩
     obtain⟨D,E,R⟩:=hz.et e (JL q);obtain⟨d,ax,r,x,-,s⟩:=cK (f:=je) (k:=2) (fun _=>rfl) hz.ot q;injection r with r T V;subst r V;clear T;obtain⟨W,g⟩:=e;obtain⟨y,c,z,F,ay,G⟩:=D.cells;have X:W=.slice y c z:=F;subst X;have H:wr.cell? ⟨d,a*2,none⟩=some (.slice y c z):=s 0 (by omega);have I:wr.cell? ⟨d,a*2+1,none⟩=some (.int .i64 (g:Nat)):=s 1 (by omega);have aA:(0:Int)<=(a:Int):=by omega
     have aI:(a:Int)<(ts.length:Int):=by omega
     have aJ:g<=ts.length:=E;have N:=ab G;clear hz D R s q G F E n B;go_wp2_with fail;refine(pp g (by omega) wr).mono ?_;rintro e O ⟨rfl,A⟩;have bn:Hid (Below w.heap.size w O):=l.trans (A.mono l.size);replace v:=(A.cell (p:=⟨j,1,none⟩) C).trans v;replace H:=(A.cell (p:=⟨d,a*2,none⟩) x).trans H;replace I:=(A.cell (p:=⟨d,a*2+1,none⟩) x).trans I;have bq:Hid (0<c-> ∃d,y=some ⟨d,0,none⟩/\d<O.heap.size/\ ∀k,k<c->O.cell? ⟨d,k,none⟩=some (.string (jb g))):=fun br=>by obtain⟨u,bs,aU,bt⟩:=(U N) br;exact⟨u,bs,Js aU A.size,fun k M=>(A.cell (p:=⟨u,k,none⟩) aU).trans (bt k M)⟩
     replace C:j<O.heap.size:=by have:=A.size;omega
     replace x:d<O.heap.size:=by have:=A.size;omega
     generalize jb g=tx at*;clear A N l;go_wp2_with fail
     go_loopg [7] c (fun f Z i=> ∃(k:Nat),k+f=c/\Z=.int .i64 (k:Nat)/\i=O)
     case atStart=>exact⟨0,by omega,rfl,rfl⟩
     case round=>
      obtain⟨k,aL,rfl,b⟩:=hrel;subst b;by_cases M:k<c
      ·have ac:decide (k<c)=true:=by simp;omega
       obtain⟨t,rfl⟩: ∃t,gk=t+1:=⟨gk-1,by omega⟩
       obtain⟨u,rfl,ae,J⟩:=(U bq) (by omega)
       have ao:=J k M;have aN:(0:Int)<=(k:Int):=by omega
       have aR:(k:Int)<(c:Int):=by omega
       have aT:(tx.toList !=tx.toList)=false:=by simp
       clear J;go_wp2;go_roundg t
       case measure=>simp
       case rel=>exact⟨k+1,by omega,by go_num,rfl⟩
      ·have ac:decide (k<c)=false:=by simp;omega
       go_wp2;go_roundg o
       case measure=>simp
       case rel=>exact⟨a+1,by omega,by go_num,bn⟩
    ·have L:decide (a<ts.length)=false:=by simp;omega
     clear hz n B;go_wp2_with fail;clear L K ad C v
     go_loopg [8] rs.length (fun f Q i=> ∃(a:Nat),a+f=rs.length/\Q=.int .i64 (a:Nat)/\Below w.heap.size w i)
     case atStart=>exact⟨0,by omega,rfl,l⟩
     case round=>
      clear l;obtain⟨a,ad,rfl,b⟩:=hrel;have hz:=ak.below b;have l:=ab b;obtain⟨n,B⟩:=blk hz.blk;have C:=aa hz.blk;have v:wr.cell? ⟨j,2,none⟩=some (.slice a9 rs.length av):=n 2;clear b;by_cases K:a<rs.length
      ·have L:decide (a<rs.length)=true:=by simp;omega
       obtain⟨o,rfl⟩: ∃o,gk=o+1:=⟨gk-1,by omega⟩
       obtain⟨e,q⟩: ∃e,rs[a]? =some e:=⟨_,Jl K⟩
       obtain⟨⟨aj,D,-,ar⟩,E,R⟩:=hz.er e (JL q);obtain⟨d,ax,r,x,-,s⟩:=cK (f:=je) (k:=2) (fun _=>rfl) hz.or q;injection r with r T V;subst r V;clear T;obtain⟨W,g⟩:=e;obtain⟨y,c,z,F,ay,G⟩:=D.cells;have X:W=.slice y c z:=F;subst X;have H:wr.cell? ⟨d,a*2,none⟩=some (.slice y c z):=s 0 (by omega);have I:wr.cell? ⟨d,a*2+1,none⟩=some (.int .i64 (g:Nat)):=s 1 (by omega);have aV:wr.cell? ⟨aj,0,none⟩=some (.int .i64 (-1-(g:Int))):=(blk ar).1 0;have bu:=aa ar;have aA:(0:Int)<=(a:Int):=by omega
       have aI:(a:Int)<(rs.length:Int):=by omega
       have aJ:g<=rs.length:=E;have N:=ab G;clear hz D R s q G F E n B ar;go_wp2_with fail;generalize al:wr=Y at*;clear al
       go_loopg [9] c (fun f Z i=> ∃(k:Nat),k+f=c/\Z=.int .i64 (k:Nat)/\Below Y.heap.size Y i)
       case atStart=>exact⟨0,by omega,rfl,Jj _ _⟩
       case round=>
        obtain⟨k,aL,rfl,b⟩:=hrel;have ba:=(b.cell (p:=⟨j,2,none⟩) C).trans v;have bb:=(b.cell (p:=⟨d,a*2,none⟩) x).trans H;have bc:=(b.cell (p:=⟨d,a*2+1,none⟩) x).trans I;have bA:=(b.cell (p:=⟨aj,0,none⟩) bu).trans aV;have be:j<wr.heap.size:=by have:=b.size;omega
        have bg:d<wr.heap.size:=by have:=b.size;omega
        have bF:aj<wr.heap.size:=by have:=b.size;omega
        have an:=ab b;by_cases M:k<c
        ·have ac:decide (k<c)=true:=by simp;omega
         obtain⟨t,rfl⟩: ∃t,gk=t+1:=⟨gk-1,by omega⟩
         obtain⟨u,rfl,ae,J⟩:=(U N) (by omega)
         have ao:=(b.cell (p:=⟨u,k,none⟩) ae).trans (J k M);have bk:u<wr.heap.size:=by have:=b.size;omega
         have aN:(0:Int)<=(k:Int):=by omega
         have aR:(k:Int)<(c:Int):=by omega
         have aT:((-1-(g:Int)) !=(-1-(g:Int)))=false:=by simp
         have bl:IntKind.i64.wrap (-1-(g:Int))= -1-(g:Int):=by unfold IntKind.wrap;simp[IntKind.bits,IntKind.signed];omega
         clear J b v H I aV
         go_upto_region 25 with(fail)
         clear ao
         go_region_held3 (fun i=>i.cell? ⟨j,2,none⟩=some (.slice (some ⟨d,0,none⟩) rs.length av)/\i.cell? ⟨d,a*2+1,none⟩=some (.int .i64 (g:Nat))/\i.cell? ⟨aj,0,none⟩=some (.int .i64 (-1-(g:Int)))) (go_keep) (first|fail)
         all_goals
          go_wp2;go_roundg t
          case measure=>simp
          case rel=>exact⟨k+1,by omega,by go_num,an.drew⟩
        ·have ac:decide (k<c)=false:=by simp;omega
         have ap:Hid (Below w.heap.size w wr):=l.trans (b.mono l.size);clear b;go_wp2;go_roundg o
         case measure=>simp
         case rel=>exact⟨a+1,by omega,by go_num,ap⟩
      ·have L:decide (a<rs.length)=false:=by simp;omega
       have bG:wr.cell? ⟨j,3,none⟩=some (.slice none 0 0):=n 3;clear hz n B;go_wp2_with fail;refine Lv 1 ?_;rw[Lq];go_wp2;go_ret;exact⟨rfl,l⟩
theorem qy{j:Type}{ts:List Tk}(e:cO ts){one:St->j×St}(g:mN ts one)(a:Nat): ∀(f:Nat) (l:List j) (st:St),st.nx<ts.length->l.length<=a->(cA ts one a f l st).2.er=none->(cA ts one a f l st).1.length<=a
 |0,_,_,_,h,_=>h
 |f+1,l,st,k,h,c=>by
  unfold cA at c⊢;split at c
  ·rename_i d
   rw[Jo d];have m:=bB e k (aW d);have n:=eh m.lt a l.length;have i:=g _ n.lt;have o:=iF e g a f (l++[(one (many ts a l.length (aD st))).1]) _ i.lt;have q:l.length≠a:=fun p=>by have b:=i.er (o.er c);unfold many at b;rw[Jo p]at b;unfold bM at b;simp only at b;split at b<;>cases b
   exact qy e g a f _ _ i.lt (by rw[Jk,JZ];omega) c
  ·rename_i d
   rw[Jn d];exact h
theorem yV{c:Type}{ts:List Tk}(d:cO ts){one:St->c×St}(b:mN ts one){a:Nat}(g:0<a){st:St}(e:st.nx<ts.length)(f:(dE ts one a st).2.er=none):(dE ts one a st).1.length<=a:=
 qy d b a _ _ _ (b st e).lt (by rw[JZ];omega) f
def lE(p s:List UInt8):Prop:= ∃a,(s.drop a).take p.length=p
theorem nT(s:ByteArray)(i k:Nat):lE ((s.extract i s.size).extract 0 k).data.toList s.data.toList:=by
 refine⟨i,?_⟩;simp only[Kx,KP,KI];simp only[Nat.sub_zero,List.drop_zero];have d:s.size=s.data.toList.length:=by simp
 rw[List.take_take,JU,J6];apply LN;intro a;rw[Kl,Kl];by_cases b:a<min (min k (s.size-i)) (s.data.toList.length-i)
 ·rw[Jo b,Jo (by omega)]
 ·rw[Jn b];by_cases c:a<min k (s.size-i)
  ·rw[Jo c,Kj (by rw[J6];omega)]
  ·rw[Jn c]
theorem DW{s:ByteArray}{i:Nat}{t:Tk}(a:cy s i=.ok t):lE t.text.data.toList s.data.toList:=by
 unfold cy at a;simp only at a;split at a
 ·split at a
  ·injection a with a;rw[<-a];exact nT _ _ _
  ·split at a
   ·cases a
   ·injection a with a;rw[<-a];exact nT _ _ _
 ·split at a
  ·split at a
   ·injection a with a;rw[<-a];exact nT _ _ _
   ·cases a
  ·split at a
   ·cases a
   ·injection a with a;rw[<-a];exact nT _ _ _
theorem ua(s:ByteArray): ∀(f i:Nat) ts,bU s f i=.ok ts-> ∀t∈ts,t.kind≠0->lE t.text.data.toList s.data.toList
 |0,i,ts,a,t,b,_=>by injection a with a;rw[<-a]at b;cases b
 |f+1,i,ts,a,t,b,e=>by
  unfold bU at a;simp only at a;split at a
  ·injection a with a;rw[<-a]at b;obtain rfl:t=_:=by simpa using b
   exact(e rfl).elim
  ·cases c:cy s (i+aY bY (s.extract i s.size).data.toList)with
   |error g=>rw[c]at a;cases a
   |ok h=>
    rw[c]at a;simp only at a
    cases d:bU s f (i+aY bY (s.extract i s.size).data.toList+h.text.size)with
    |error g=>rw[d]at a;cases a
    |ok j=>
     rw[d]at a;injection a with a;rw[<-a]at b;rcases JG.1 b with rfl|b
     ·exact DW c
     ·exact ua s f _ j d t b e
theorem ub{a:List TT}: ∀ {l:List (List TT)},a∈l-> ∀x∈a,x∈eP l
 | [b],c,x,d=>by
  obtain rfl:a=b:=by simpa using c
  exact d
 |b::e::f,c,x,d=>by
  unfold eP;rcases JG.1 c with rfl|c
  ·exact J4 _ d
  ·exact KJ _ (KQ _ (ub c x d))
theorem DX: ∀l:List cn,l.length<=(fW l).length
 | []=>KO _
 |x::r=>by
  unfold fW
  have: ∀r:List cn,r.length<=(r.flatMap fun a=>[tx ⟨#[97,110,100]⟩]++ol a).length:=fun r=>by
   induction r with
   |nil=>exact KO _
   |cons a r b=>rw[LM,Jk,Jk,JZ,Ju];omega
  have c:=this r;rw[Jk,Jk,JZ,Ju];omega
abbrev uc:List UInt8:=[111,118,101,114]
abbrev ud:List UInt8:=[119,105,116,104]
structure Gb(X:cH):Prop where
 wth:X.wth=none
 win: ∀i∈X.main.items,i.win=none
 i0:0<X.main.items.length
 i6:X.main.items.length<=6
 s0:0<X.main.srcs.length
 s3:X.main.srcs.length<=3
 t9:X.main.tests.length<=1000
theorem G7{s:ByteArray}{X:cH}(e:cP s=.ok X)(N:s.size<=1000)(A: ¬lE uc s.data.toList)(B: ¬lE ud s.data.toList):Gb X:=by
 unfold cP at e
 cases g:fH s with
 |error O=>rw[g]at e;cases e
 |ok a=>
  rw[g]at e;obtain⟨m,c⟩:=jo g;obtain⟨C,n,-,o,p,-⟩:=EN c e;have D: ∀d∈m,lE d.text.data.toList s.data.toList:=fun d h=>ua s _ _ a g d (by rw[c.eq];exact J4 _ h) (c.all d h).1;have q: ∀f:ByteArray,tx f∈ia X->lE f.data.toList s.data.toList:=fun f E=>by have r:f∈(ia X).map (·.1):=KM.2 ⟨tx f,E,rfl⟩;rw[p]at r;obtain⟨d,h,rfl⟩:=KM.1 r;exact D d h
  have i:X.wth=none:=by
   cases j:X.wth with
   |none=>rfl
   |some F=>
    refine(B (q ⟨#[119,105,116,104]⟩ ?_)).elim;unfold ia;rw[j];refine J4 _ ?_
    show _∈pT F
    unfold pT;simp
  have t:(0:Nat)<a.length:=by rw[c.len.2];omega
  have G:(da a bR).2.er=none:=C
  have u:eV a bR=(none,bR):=by
   have k:(eV a bR).1=none:=by rw[<-n]at i;exact i
   unfold eV at k⊢;split at k
   ·cases k
   ·rename_i H;rw[Jn H]
  have v:X.main=(fJ a bR).1:=by rw[<-n];unfold da;rw[u]
  have I:(fJ a bR).2.er=none:=by have l:=G;unfold da at l;rw[u]at l;exact l
  have b:=c.last;have w:=rR b (st:=bR) t;have x:=rS b w.lt;have J:=nD b x.lt;have y:(jK a (jf a bR).2).2.er=none:=J.er I;have K:(jf a bR).2.er=none:=x.er y;refine⟨i,fun z L=>?_,o.2.1,?_,o.2.2,?_,?_⟩
  ·cases j:z.win with
   |none=>rfl
   |some M=>
    refine(A (q ⟨#[111,118,101,114]⟩ ?_)).elim;unfold ia;refine KJ _ ?_;unfold qF;refine J4 _ (J4 _ (J4 _ (KJ _ ?_)));refine ub (KM.2 ⟨z,L,rfl⟩) _ ?_;unfold xB xA;rw[j];refine J4 _ ?_
    show _∈sK M
    unfold sK;simp
  ·rw[v];exact yV b (iH b) (by decide) (aM b t _).lt K
  ·rw[v];exact yV b (iV b) (by decide) (aM b w.lt _).lt y
  ·have P:=DX X.main.tests;have Q:(fW X.main.tests).length<=(ia X).length:=by unfold ia qF;simp only[Jk];omega
   have R:(ia X).length=m.length:=by
    have:=JE List.length p
    simpa using this
   have:=c.len.1;omega
def qU(s:ByteArray)(i:Nat):Bool:=(s.extract i (i+4)).toList==uc||(s.extract i (i+4)).toList==ud
def l6(s:ByteArray):Bool:=(List.range (s.size+1-4)).any (qU s)
theorem pq{s:ByteArray}{i:Nat}(b:i+4<=s.size)(a:qU s i=true):l6 s=true:=by unfold l6;rw[Mj];exact⟨i,Mt.2 (by omega),a⟩
theorem IZ(s:ByteArray)(i:Nat):(s.extract i (i+4)).toList=(s.data.toList.drop i).take 4:=by
 rw[JA];simp only[Kx,KP,KI]
 congr 1
 omega
theorem DY{s:ByteArray}{p:List UInt8}(b:p.length=4)(c:lE p s.data.toList): ∃i,i+4<=s.size/\(s.extract i (i+4)).toList=p:=by
 obtain⟨i,a⟩:=c;rw[b]at a;refine⟨i,?_,by rw[IZ];exact a⟩;have:=JE List.length a;rw[JU,J6,b]at this;have d:s.data.toList.length=s.size:=by simp
 omega
theorem vX{s:ByteArray}(a:l6 s=false): ¬lE uc s.data.toList/\ ¬lE ud s.data.toList:=by
 refine⟨fun b=>?_,fun b=>?_⟩
 ·obtain⟨e,c,d⟩:=DY rfl b;rw[pq c (by unfold qU;rw[d];rfl)]at a;cases a
 ·obtain⟨e,c,d⟩:=DY rfl b;rw[pq c (by unfold qU;rw[d];rfl)]at a;cases a
theorem B'(s:ByteArray)(w:World)(r:s.size<=281474976710656):Calls prog 19 #[.string s] w fun e w'=>e=.returned (.bool (l6 s))/\w'=w:=by
 go_enter func19,ntmps19;go_wp2_with fail
 go_loopg [3] (s.size+1) (fun l m n=> ∃(a:Nat),a+l=s.size+1/\m=.int .i64 (a:Nat)/\(∀b,b<a->qU s b=false)/\a<=s.size+1-4/\n=w)
 case atStart=>exact⟨0,by omega,rfl,fun b t=>by omega,by omega,rfl⟩
 case round=>
  obtain⟨a,u,rfl,g,v,o⟩:=hrel;obtain rfl:=o.symm;have hz:=ab g;clear g;by_cases i:a+4<=s.size
  ·have p:decide ((a:Int)+4<=(s.size:Int))=true:=by simp;omega
   obtain⟨d,rfl⟩: ∃d,gk=d+1:=⟨gk-1,by omega⟩
   have x:(0:Int)<=(a:Int):=by omega
   have y:(a:Int)<=(a:Int)+4:=by omega
   have z:(a:Int)+4<=(s.size:Int):=by omega
   have c:Hid (qU s a=((s.extract a (a+4)).toList==uc||(s.extract a (a+4)).toList==ud)):=rfl
   cases f:((s.extract a (a+4)).toList==uc)with
   |true=>rw[f]at c;go_wp2;go_ret;exact⟨by rw[pq i (by rw[U c];rfl)];rfl,rfl⟩
   |false=>
    cases j:((s.extract a (a+4)).toList==ud)with
    |true=>rw[f,j]at c;go_wp2;go_ret;exact⟨by rw[pq i (by rw[U c];rfl)];rfl,rfl⟩
    |false=>
     rw[f,j]at c;go_wp2;go_roundg d
     case measure=>simp
     case rel=>
      refine⟨a+1,by omega,by go_num,fun b k=>?_,by omega,rfl⟩;by_cases q:b<a
      ·exact hz b q
      ·obtain rfl:b=a:=by omega
       rw[U c];rfl
  ·have p:decide ((a:Int)+4<=(s.size:Int))=false:=by simp;omega
   go_wp2;go_ret;refine⟨?_,rfl⟩;have e:l6 s=false:=by unfold l6;rw[Mg];intro b k;rw[(U hz) b (by have:=Mt.1 k;omega)];decide
   rw[e];rfl
inductive Vd(T:List Tb)(s:ByteArray):Int->Int->List ByteArray->List (List Int)->Prop
 |long:1000<s.size->Vd T s 1 (-1) [] []
 |bad (p k:Nat):s.size<=1000->cP s=.error (p,k)->Vd T s (gX k) p [] []
 |wrong (X:cH) (fs:Fs) (N:Nat) (ch l:List (List Int)) (p k:Nat):s.size<=1000->cP s=.ok X->Pn T X.main fs N ch l (some (p,k))->Vd T s (gX k) p [] []
 |many (X:cH) (fs:Fs) (N:Nat) (ch l:List (List Int)):s.size<=1000->cP s=.ok X->Pn T X.main fs N ch l none->4000<N->Vd T s 9 (-1) [] []
 |good (X:cH) (fs:Fs) (N:Nat) (ch l:List (List Int)):s.size<=1000->cP s=.ok X->Pn T X.main fs N ch l none->N<=4000->Vd T s 0 0 (X.main.items.map fun i=>iZ i.asT) (iY l)
theorem Vd.ex(T:List Tb)(s:ByteArray): ∃n p g rows,Vd T s n p g rows:=by
 by_cases h:1000<s.size
 ·exact⟨_,_,_,_,.long h⟩
 ·cases c:cP s with
  |error b=>exact⟨_,_,_,_,.bad b.1 b.2 (by omega) c⟩
  |ok a=>
   obtain⟨d,i⟩: ∃d,d=a.main.tests.foldl (fun e j=>bQ e (gd T (aX T a.main.srcs).ss j)) (a.main.items.foldl (fun e k=>bQ e (pG T k (aX T a.main.srcs).ss)) (aX T a.main.srcs).er):=⟨_,rfl⟩
   have f:Pn T a.main (aX T a.main.srcs) (dQ (aK T (aX T a.main.srcs).ss)) _ _ d:=⟨rfl,rfl,rfl,rfl,i⟩
   cases d with
   |some b=>exact⟨_,_,_,_,.wrong a _ _ _ _ b.1 b.2 (by omega) c f⟩
   |none=>
    by_cases l:4000<dQ (aK T (aX T a.main.srcs).ss)
    ·exact⟨_,_,_,_,.many a _ _ _ _ (by omega) c f l⟩
    ·exact⟨_,_,_,_,.good a _ _ _ _ (by omega) c f (by omega)⟩
noncomputable def gI (ts:List ByteArray) (s:ByteArray):List ByteArray:=open Classical in if s.size<=1000/\ ∃a,cP s=.ok a then jF ts s else ts
theorem mp(W:World):aS W (.slice none 0 0) []:=⟨none,0,rfl,KO _,fun a=>by simp at a⟩
theorem od(W:World):bZ W (.slice none 0 0) []:=⟨[],mp W,rfl,fun b c d a=>by simp at a⟩
theorem FN{k:Nat}(a:k=bE∨k=fU∨k=jZ∨k=cB):(fA k !=0)=true/\fA k=gX k:=by rcases a with rfl|rfl|rfl|rfl<;>exact⟨by decide,rfl⟩
theorem G8(w:World)(d f lo:Nat)(q u:Value)(ts:List ByteArray)(D:Yq w d f lo q u ts)(H:lo<=w.heap.size)(I:ts.length<=10000000)(s:ByteArray)(T:List Tb)(J:T.length<=5)(K: ∀X,cP s=.ok X->s.size<=1000->Gb X)
  (L: ∀W,aF d f w W->bp W q T) (M: ∀t∈T,t.rows.length<=200) (N: ∀t∈T,∀r∈t.rows,r.length=t.cols.length) {n p:Int} {E:List ByteArray} {rows:List (List Int)} (O:Vd T s n p E rows):
  Calls prog 52 #[.pointer (some ⟨d,0,none⟩),.string s] w fun e w'=> ∃v l,e=.returned (.tuple #[v,l,.agg #[.int .i64 n,.int .i64 p]])/\aS w' v (aB E)/\bZ w' l rows/\aF d f w w'/\ ∃g m,Yq w' d g lo q m (gI ts s)/\(g=f∨w.heap.size<=g)/\(m.ownBlock=some g∨(g=f/\m=u)):=by
 have F: ∀(n p:Int),(n !=0)=true->(¬(s.size<=1000/\ ∃X,cP s=.ok X))->(∀W,Calls prog 39 #[.string s] W fun e w'=>e=.returned (.tuple #[.pointer none,.agg #[.int .i64 n,.int .i64 p]])/\Below W.heap.size W w')->Calls prog 52 #[.pointer (some ⟨d,0,none⟩),.string s] w fun e w'=> ∃v l,e=.returned (.tuple #[v,l,.agg #[.int .i64 n,.int .i64 p]])/\aS w' v (aB [])/\bZ w' l []/\aF d f w w'/\ ∃g m,Yq w' d g lo q m (gI ts s)/\(g=f∨w.heap.size<=g)/\(m.ownBlock=some g∨(g=f/\m=u)):=fun n p P Q R=>by refine(G1 w d s n p P R).mono ?_;rintro e w' ⟨rfl,G⟩;exact⟨_,_,rfl,mp _,od _,Below.off2 G,f,u,by unfold gI;rw[Jn Q];exact D.below G,Or.inl rfl,Or.inr ⟨rfl,rfl⟩⟩
 have A: ∀X j h k i y,s.size<=1000->cP s=.ok X->Pn T X.main j h k i y->Calls prog 52 #[.pointer (some ⟨d,0,none⟩),.string s] w fun e w'=>Io w d f lo q u (gI ts s) h i X.main.items y e w':=fun X j h k i y b c o=>by
  have x:=K X c b;have e:gI ts s=jF ts s:=by unfold gI;rw[Jo ⟨b,X,c⟩]
  rw[e];exact G0 w d f lo q u ts D H I s b X c T J x.wth x.win x.i6 x.s3 x.t9 L M N j h k i y o
 cases O with
 |long b=>exact F 1 (-1) rfl (fun a=>by omega) (fun W=>BZ s W b)
 |bad p B b c=>obtain⟨S,V⟩:=FN (u0 c).2;rw[<-V];refine F (fA B) p S (fun a=>by obtain⟨-,X,a⟩:=a;rw[c]at a;cases a) (fun W=>?_);have z:=vV s W b;rw[c]at z;exact z.mono (fun e w' a=>⟨a.2,a.1⟩)
 |wrong X j h k i p B b c o=>refine(A X j h k i _ b c o).mono ?_;rintro e w' a;exact⟨_,_,a.bad p B rfl,mp _,od _,a.off,a.yq⟩
 |many X j h k i b c o C=>refine(A X j h k i _ b c o).mono ?_;rintro e w' a;exact⟨_,_,a.many rfl C,mp _,od _,a.off,a.yq⟩
 |good X j h k i b c o C=>refine(A X j h k i _ b c o).mono ?_;rintro e w' a;obtain⟨Y,l,z,Z,ac⟩:=a.good rfl C;exact⟨Y,l,z,Z,ac,a.off,a.yq⟩
end
section
open Go.RowKit Go.Maps Tryz
structure Xa(a:Nat->Addr)(w w':World)(n p:Int)(txt:List ByteArray)(rows:List (List Int))(vc vr ev:Value):Prop where
 err:n≠0->vc=.slice none 0 0/\vr=.slice none 0 0/\txt=[]/\rows=[]/\(∃t v,ev=.iface t v/\ ∀W,(binOp .eql 23 ev .nilIface).run prog W=.ok (.bool false) W)/\ ∀B W,cJ a B W->aw kT 0 w' W->Calls prog 15 #[ev] W fun e w''=>e=.returned (.agg #[.int .i64 n,.int .i64 p])/\Below W.heap.size W w''
 ok:n=0->p=0/\ev=.nilIface/\txt.length<=6/\rows.length<=4000
 own:w'.ownsRow w.heap.size 9 1 vc txt.length (aB txt)
 rws: ∃us,fK w' w.heap.size vr us rows
theorem Is{k:Nat}(a:k=bE∨k=fU∨k=jZ∨k=cB):lc k/\tw k=true/\k≠0:=by rcases a with rfl|rfl|rfl|rfl<;>exact⟨by unfold lc;simp,by decide,by decide⟩
theorem DZ(W:World)(lo:Nat):fK W lo (.slice none 0 0) [] []:=⟨JF _ _ _ _,rfl,fun b c d a=>by simp at a,fun b e c f g a=>by simp at a⟩
theorem eZ.rowsP{W:World}{lo g k:Nat}{l:List (List Int)}(d:eZ W lo g k l)(s:lo<=g)(E:k<=6)(F:l.length<=4000): ∃us,fK W lo (.slice (some ⟨g,0,none⟩) l.length l.length) us l:=by
 obtain⟨f,t,j,u,v⟩:=d;refine⟨f.map (sl k),⟨⟨by simp,Or.inr ⟨g,l.length,_,by rw[Jm,j],s,t,by rw[Jm,j];exact Ji _,by unfold maxLen;omega,by simp[j],?_⟩⟩,by rw[Jm,j],fun b w x a c=>?_,fun b h w G i a c y z=>?_⟩⟩
 ·rw[Jm,Lb];exact JJ (by simp)
 ·rw[J7]at a
  cases e:f[b]? with
  |none=>rw[e]at a;cases a
  |some i=>rw[e]at a;simp only[Lc,Ke]at a;subst a;obtain⟨H,A,q,B⟩:=v b i x e c;refine⟨⟨by simp[aE],Or.inr ⟨i,k,_,by rw[q],A,B,by omega,by unfold maxLen;omega,by simp[aE,q],JJ (by simp[aE])⟩⟩,by omega⟩
 ·rw[J7]at a c
  cases e:f[b]? with
  |none=>rw[e]at a;cases a
  |some C=>
   cases p:f[h]? with
   |none=>rw[p]at c;cases c
   |some D=>
    rw[e]at a;rw[p]at c;simp only[Lc,Ke]at a c;subst a c;have f1:C=i:=by simpa [Value.ownBlock]using y
    have f2:D=i:=by simpa [Value.ownBlock]using z
    have m:=(Jy.1 e)
    have n:=(Jy.1 p)
    have r:f[b]'m.1=f[h]'n.1:=m.2.trans (f1.trans (f2.symm.trans n.2.symm));have o:=u;unfold List.Nodup at o;rw[Lg]at o;rcases Nat.lt_trichotomy b h with d|d|d
    ·exact absurd r (o b h m.1 n.1 d)
    ·exact d
    ·exact absurd r.symm (o h b n.1 m.1 d)
def gZ(e:Option (Nat×Nat)):Prop:= ∀b a,e=some (b,a)->lc a
theorem gZ.none:gZ none:=fun b c a=>by cases a
theorem gZ.or{a b:Option (Nat×Nat)}(f:gZ a)(g:gZ b):gZ (bQ a b):=fun c d e=>by
 cases a with
 |none=>exact g c d e
 |some h=>exact f c d e
theorem gZ.fold{d:Type}{f:d->Option (Nat×Nat)}(e: ∀x,gZ (f x)): ∀(l:List d) (a:Option (Nat×Nat)),gZ a->gZ (l.foldl (fun x b=>bQ x (f b)) a)
 | [],_,c=>c
 |b::l,_,c=>gZ.fold e l _ (c.or (e b))
theorem G9(T:List Tb)(b:List Sr)(n:Nd):gZ (eA T b n):=fun c d a=>by
 unfold eA at a;split at a
 ·split at a
  ·injection a with a;injection a with _ a;rw[<-a];unfold lc;simp
  ·split at a
   ·injection a with a;injection a with _ a;rw[<-a];unfold lc;simp
   ·cases a
 ·cases a
theorem uQ(T:List Tb)(a:List Sr)(l:List Nd):gZ (cw T a l):=fun b c d=>by obtain⟨e,-,f⟩:=List.exists_of_findSome?_eq_some d;exact G9 T a e b c f
theorem yX(T:List Tb): ∀(l:List (Tk×Tk)) (f:Fs),gZ f.er->gZ (l.foldl (bW T) f).er
 | [],_,a=>a
 |x::l,f,a=>yX T l _ (by
  unfold bW;split
  ·exact a.or (fun p k e=>by injection e with e;injection e with _ e;rw[<-e];unfold lc;simp)
  ·refine a.or (fun p k e=>?_);split at e
   ·injection e with e;injection e with _ e;rw[<-e];unfold lc;simp
   ·cases e)
theorem Pn.ten{T:List Tb}{x:dP}{a:Fs}{e:Nat}{g l:List (List Int)}{R:Option (Nat×Nat)}(d:Pn T x a e g l R):gZ R:=by rw[d.eR];refine gZ.fold (f:=fun b=>gd T a.ss b) (fun b=>(uQ T a.ss b.l).or (uQ T a.ss b.r)) _ _ (gZ.fold (f:=fun c=>pG T c a.ss) (fun c=>uQ T a.ss c.val) _ _ ?_);rw[d.efs];exact yX T _ _ gZ.none
theorem I5(v:Value)(W:World):(binOp .eql 23 (.iface 110 v) .nilIface).run prog W=.ok (.bool false) W:=vD W v
structure oJ(ks:List ByteArray)(s:ByteArray)(ks':List ByteArray)(m m':Int):Prop where
 mem: ∀t,t∈ks'↔t∈ks∨(t=s/\s.size<=1000)
 len:ks'.length<=ks.length+1
 old:s∈ks∨ ¬(s.size<=1000/\ ∃X,cP s=.ok X)->m'=m
 new:s∉ks->s.size<=1000->(∃X,cP s=.ok X)->m'=m+1
theorem oJ.cons{c:List ByteArray}{s:ByteArray}(d:s.size<=1000)(t:ByteArray):t∈s::c↔t∈c∨(t=s/\s.size<=1000):=by rw[JG];exact⟨fun a=>a.elim (fun b=>Or.inr ⟨b,d⟩) Or.inl,fun a=>a.elim Or.inr (fun b=>Or.inl b.1)⟩
theorem oJ.same{a:List ByteArray}{s:ByteArray}(b:s∈a∨1000<s.size)(t:ByteArray):t∈a↔t∈a∨(t=s/\s.size<=1000):=
 ⟨Or.inl,fun c=>c.elim id (fun e=>by rcases b with h1|h1;rw[e.1];exact h1;omega)⟩
theorem Ha(a:Nat->Addr)(k:Nat)(w:World)(M:cJ a k w)(Y:ij w)(l u:Nat)(N:k<=l)(O:k<=u)(G H I:Nat)(T:List Tb)(E m:Int)(av:0<=m/\m<1000000000)(C:List ByteArray)(Z:C.length<1000000000)(P:Qs a w l u (.slice (some ⟨G,H,none⟩) T.length I) E C m)(s:ByteArray)(ax:s.size<=281474976710656)(ac: ∀X,cP s=.ok X->s.size<=1000->Gb X)
  (ay: ∀W,aF l u w W->bp W (.slice (some ⟨G,H,none⟩) T.length I) T) (aA: ∀t∈T,t.cols.length<=6) (aI: ∀t∈T,t.rows.length<=200) (aJ: ∀t∈T,∀r∈t.rows,r.length=t.cols.length) {n p:Int} {ad:List ByteArray} {rows:List (List Int)} (aL:Vd T s n p ad rows):
  Calls prog 25 #[.pointer (some ⟨l,0,none⟩),.string s] w fun e w'=> ∃ae aj D d h,e=.returned (.tuple #[.agg #[ae,aj],D])/\Xa a w w' n p ad rows ae aj D/\aF l u w w'/\Qs a w' l u (.slice (some ⟨G,H,none⟩) T.length I) E d h/\oJ C s d m h:=by
 have ak: ∀(w':World) (n p:Int) (D:Value),n≠0->(∃t aN,D=.iface t aN/\ ∀W,(binOp .eql 23 D .nilIface).run prog W=.ok (.bool false) W)->(∀k W,cJ a k W->aw kT 0 w' W->Calls prog 15 #[D] W fun e aR=>e=.returned (.agg #[.int .i64 n,.int .i64 p])/\Below W.heap.size W aR)->Xa a w w' n p [] [] (.slice none 0 0) (.slice none 0 0) D:=fun w' n p D aT i f=>⟨fun _=>⟨rfl,rfl,rfl,rfl,i,f⟩,fun e=>absurd e aT,JF _ _ _ _,[],DZ _ _⟩
 have al: ∀(w':World) (p b y:Nat),lc b->w'.heap[y]? =some (.cells #[.int .i64 (p:Nat),bI a b] 113 (0,0))->Xa a w w' (gX b) p [] [] (.slice none 0 0) (.slice none 0 0) (.iface 110 (.pointer (some ⟨y,0,none⟩))):=fun w' p b y Q K=>ak w' (gX b) p _ (qQ b) ⟨_,_,rfl,I5 _⟩ (fun k W R aU=>yJ a k W R y p b Q ((aU y _ _ (KO _) K rfl).trans K));have an: ∀(w':World) (b:Nat),lc b->Xa a w w' (gX b) (-1) [] [] (.slice none 0 0) (.slice none 0 0) (bI a b):=fun w' b Q=>ak w' (gX b) (-1) _ (qQ b) ⟨_,_,rfl,fun W=>AH W _⟩ (fun k W R _=>kR a k W R b Q)
 have S: ∀X v o z j L,s.size<=1000->cP s=.ok X->Pn T X.main v o z j L->Calls prog 25 #[.pointer (some ⟨l,0,none⟩),.string s] w fun e w'=>sh a w l u o j X.main.items L e w'/\ ∃d h,Qs a w' l u (.slice (some ⟨G,H,none⟩) T.length I) E d h/\oJ C s d m h:=fun X v o z j L c g A=>by
  have q:=ac X g c;refine(GK a k w M l u N O G H I T E m av C Z P s c X g q.wth q.win q.i0 q.i6 q.s0 q.s3 q.t9 ay aA aI aJ v o z j L A).mono ?_;rintro e w' ⟨aV,d,h,i,f⟩;refine⟨aV,d,h,i,?_⟩;rcases f with⟨rfl,rfl,F⟩|⟨rfl,rfl,F⟩
  ·exact⟨oJ.same (Or.inl F),by omega,fun _=>rfl,fun x=>absurd F x⟩
  ·exact⟨oJ.cons c,Ji _,fun x=>by rcases x with x|x;exact absurd x F;exact absurd ⟨c,X,g⟩ x,fun _ _ _=>rfl⟩
 cases aL with
 |long c=>refine(Dk a k w M Y l u N O _ E m C P s c ax).mono ?_;rintro e w' ⟨rfl,i,f⟩;exact⟨_,_,_,C,m,rfl,an w' fS (by unfold lc;simp),i,f,oJ.same (Or.inr c),by omega,fun _=>rfl,fun _ x=>by omega⟩
 |bad p b c g=>
  obtain⟨a0,a1⟩:=Is (u0 g).2;refine(Fk a k w M Y l u N O _ E m C Z P s c p b g a1).mono ?_;rintro e w' ⟨y,d,rfl,i,f,F,B⟩;refine⟨_,_,_,d,m,rfl,al w' p b y a0 i,f,F,?_⟩;have a2: ∀X,¬cP s=.ok X:=fun X e=>by rw[g]at e;cases e
  rcases B with⟨rfl,B⟩|⟨rfl,B⟩
  ·exact⟨oJ.same (Or.inl B),by omega,fun _=>rfl,fun x=>absurd B x⟩
  ·exact⟨oJ.cons c,Ji _,fun _=>rfl,fun _ _ ⟨X,e⟩=>absurd e (a2 X)⟩
 |wrong X v o z j p b c g A=>refine(S X v o z j _ c g A).mono ?_;rintro e w' ⟨⟨J,a3,-,-⟩,d,h,i,f⟩;obtain⟨y,rfl,-,K⟩:=a3 p b rfl;exact⟨_,_,_,d,h,rfl,al w' p b y (A.ten p b rfl) K,J,i,f⟩
 |many X v o z j c g A B=>refine(S X v o z j _ c g A).mono ?_;rintro e w' ⟨⟨J,-,a4,-⟩,d,h,i,f⟩;obtain rfl:=a4 rfl B;exact⟨_,_,_,d,h,rfl,an w' cB (by unfold lc;simp),J,i,f⟩
 |good X v o z j c g A B=>
  have q:=ac X g c;refine(S X v o z j _ c g A).mono ?_;rintro e w' ⟨⟨J,-,-,a5⟩,d,h,i,f⟩;obtain⟨a9,bl,V,ao,rfl,a',ba,bb,bc⟩:=a5 rfl B;have ap:V.length=X.main.items.length:=by rw[<-ao,Jm]
  have bn:j.length<=4000:=by
   rw[<-tW A,Jm];have f:(dK T v.ss X.main o).length<=o:=by unfold dK;exact Jt (Lz _ _) (by simp)
   omega
  have be:(iY j).length=j.length:=(LJ _ _).length_eq;have ar:fR V=aB (X.main.items.map fun bg=>iZ bg.asT):=by rw[<-ao];unfold fR aB;rw[Ml,Ml];rfl
  obtain⟨bk,au⟩:=bc.rowsP ba q.i6 (by omega);rw[be]at au;refine⟨_,_,_,d,h,rfl,⟨fun e=>absurd rfl e,fun _=>⟨rfl,rfl,by rw[Jm];exact q.i6,by omega⟩,?_,bk,au⟩,J,i,f⟩;refine⟨by simp[aB],Or.inr ⟨a9,V.length,_,by rw[Jm,ap],a',bb,by rw[Jm];omega,by have:=q.i6;unfold maxLen;omega,by rw[ar];simp[aB,ap],?_⟩⟩;rw[ar];exact JJ (by simp[aB])
end
end Go.Proofs.YtfkeddkfegaeiaaGreatDoor
